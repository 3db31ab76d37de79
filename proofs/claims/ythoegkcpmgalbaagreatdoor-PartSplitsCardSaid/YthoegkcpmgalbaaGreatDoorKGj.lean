import Derived.Deep.OwnRows
import Derived.Test.YthoegkcpmgalbaaGreatDoorKGi
set_option linter.all false
set_option maxRecDepth 100000
namespace Go.Proofs.YthoegkcpmgalbaaGreatDoor
open Go.RowKit Go.Maps
variable{D W w w' w0:World}{M N g:Nat}{p:Pl}{t:Tok}{vs:List Vx}
def wh3(es:List Ed)(n:Int):List Int:=(CD es n).map λx=>(x.1:Int)
def mgB(N:Nat)(p:Pl):List Value:=(List.range N).map λ(n:Nat)=>.bool (p.mgd (n:Int))
structure PI(w:World)(a:Nat->Value)(N:Nat)(p:Pl):Prop where
 nodes:a 6=nI (N:Nat)
 edges:SL w 6 (a 8) p.es.length (edL p.es)
 cap:a 9=nI (p.cap:Nat)
 steps:∃sv:List Value,SL w 1 (a 10) p.es.length sv/\∀(i:Nat) (e:Ed),p.es[i]?=some e->∃v,sv[i]?=some v/\FH w v (AM p.H p.U e i)
 outs:∃ov:List Value,SL w 1 (a 11) N ov/\∀n,n<N->∃v,ov[n]?=some v/\SL w 1 v (CD p.es (n:Int)).length (ilL (wh3 p.es (n:Int)))
 mrg:SL w 1 (a 12) N (mgB N p)
 sls:∀i,i<6->∃ao n c,a i=.slice ao n c
 exi:∃x,a 7=nI x
structure PB(N:Nat)(p:Pl):Prop where
 win:FO N p.es
 frm:∀e∈p.es,0<=e.from'/\e.from'<(N:Int)
 small:N<=1000/\p.cap<=10/\p.es.length<=5000
 pos:0<p.cap
 unr:0<=p.U/\p.U<=1000
def PI.ok{a:Nat->Value}(h:PI w a N p)(d:Ok w w'):PI w' a N p:=by obtain⟨X,R,O⟩:=h.steps;obtain⟨I,Y,J⟩:=h.outs;exact⟨h.nodes,h.edges.below d,h.cap,⟨X,R.below d,λi e K=>by obtain⟨v,G,o⟩:=O i e K;exact⟨v,G,o.ok d⟩⟩,⟨I,Y.below d,λn L=>by obtain⟨v,G,o⟩:=J n L;exact⟨v,G,o.below d⟩⟩,h.mrg.below d,h.sls,h.exi⟩
def TkB.step{H U:Int}{e:Ed}{i:Nat}(h:TkB M t)(L:I64 e.from')(O:I64 (i:Int))(R:0<=U/\U<=1000):TkB (M+1) (AM H U e i t):=by
 have G:∀x∈wb0 U t.2.2,I64 x.1/\I64 x.2:=λx hx=>by
  unfold wb0 at hx
  cases d:t.2.2.getLast? with
  | none=>rw[d]at hx;exact h.li x hx
  | some y =>
   rw[d]at hx;rcases bA.1 hx with hx | hx
   ·exact h.li x (iL _ hx)
   have o:=h.li y (List.mem_of_getLast? d);rw[aT.1 hx];refine⟨o.1,?_⟩;have K:=o.2.1;have J:=o.2.2;show I64 (if y.2<U then y.2+1 else U);unfold I64
   split<;>omega
 have I:(wb0 U t.2.2).length<=t.2.2.length:=by
  unfold wb0
  cases d:t.2.2.getLast? with
  | none=>exact nR_ _
  | some y =>
   simp only[aA,eB,aZ];have:0<t.2.2.length:=iP.2 (λe=>by rw[e]at d;cases d);omega
 have K:=h.hl;have J:=h.ll;have o:TkB (M+1) (false,t.2.1,t.2.2):=⟨by show t.2.1.length<=_;omega,by show t.2.2.length<=_;omega,h.hi,h.li⟩;unfold AM
 split
 ·exact⟨by simp[EG],by simp[EG],by simp[EG],by simp[EG]⟩
 split
 ·exact o
 split
 ·split
  ·refine⟨by show(t.2.1++[(i:Int)]).length<=_;rw[aA,aZ];omega,by show t.2.2.length<=_;omega,λx hx=>?_,h.li⟩
   rcases bA.1 hx with hx | hx
   ·exact h.hi x hx
   rw[aT.1 hx];exact O
  exact o
 split
 ·split
  ·exact⟨by show t.2.1.length<=_;omega,by show t.2.2.dropLast.length<=_;rw[eB];omega,h.hi,λx hx=>h.li x (iL _ hx)⟩
  exact o
 split
 ·split
  ·exact⟨by show t.2.1.length<=_;omega,by show(wb0 U t.2.2).length<=_;omega,h.hi,G⟩
  refine⟨by show t.2.1.length<=_;omega,by show(t.2.2++[(e.from',(1:Int))]).length<=_;rw[aA,aZ];omega,h.hi,λx hx=>?_⟩;rcases bA.1 hx with hx | hx
  ·exact h.li x hx
  rw[aT.1 hx];exact⟨L,by unfold I64;omega⟩
 exact o
def CG.step{H U:Int}{e:Ed}{i:Nat}(h:CG t):CG (AM H U e i t):=λd=>by rw[zj5]at d;unfold AM;rw[aG d]
def wm8(w0:World)(p:Pl)(f:Nat)(e:Ending)(w':World):Prop :=
 match p.find f with
 | .inl n=>e=.panicked [{ v:=.iface 158 (nI n),recovered:=false }]/\Ok w0 w'
 | .inr r=>∃(vv lv:Value) (B:Nat),e=.returned (.agg #[vv,lv,sZ])/\DJ w' B vv r.1/\w'.ownsRow B 78 3 lv r.2.length (lkL r.2)/\w0.heap.size<=B/\Ok w0 w'
structure F0(W u:World)(a:Nat->Value)(N:Nat)(s3:Value):Prop where
 at_:∃gf gm gt:Nat,s3=pA gf 0/\u.heap[gf]?=some (.cells #[a 0,a 1,a 2,a 3,a 4,a 5,a 6,a 7,a 8,a 9,a 10,a 11,a 12,sZ,sZ,.map (some gm),.slice (sA gt 0) N N] 218 (0,0))/\CE u 9 gm 0 (λ_=>Option.none)/\u.ownsRow W.heap.size 3 1 (.slice (sA gt 0) N N) N (ilL (List.replicate N 0))/\W.heap.size<=gf/\W.heap.size<=gm/\W.heap.size<=gt/\gf≠gm/\gf≠gt/\gm≠gt
 ok:Ok W u
def zg9{ops:Array Oper}{o:Oper}{a:Act}{K:Act->World->Prop}{Q:Exit->Act->World->Prop}{E:Prop}(J:o.guard=none)(I:TypeId)(x y:Operand)(ho:o.op=.store I x y)(g:Nat)(t:TypeId)(G d:Array Value)
  (R:a.eval x=pA g 0) (hy:a.eval y=.agg d) (L:w.heap[g]?=some (.cells G t (0,0))) (Z:(Tryz.prog.info? I).map (·.size)=some d.size) (Y:G.size=d.size) (X:d.all (·.oneCell')=true) (hd:o.dst=none) (h:K a (w.setRow g d)) :
  if Region.wanted o (yielded ops a.tmps)=true then Oper.wp Tryz.prog o a w K Q else E:=by
 have O:Region.wanted o (yielded ops a.tmps)=true:=by simp[Region.wanted,J]
 rw[aG O];unfold Oper.wp execOp;simp only[ho,R,hy,Instr.storeAt,Instr.sureAddr,Sem.run_bind,Sem.run_pure,Result.andThen_ok,run_storeVar_row w g t I G d L Z Y X];show K (a.put o.dst undef) (w.setRow g d);rw[hd];exact h
def zd0(h:Ok w0 w)(o:w0.heap.size<=g)(cs:Array Value):Ok w0 (w.setRow g cs):=⟨h.os,h.tape,h.output,by rw[size_setRow];exact h.size,λk d=>(setRow_other _ _ _ _ oM).trans (h.block k d)⟩
def CE.row{k:TypeId}{b:Nat}{f:Value->Option Int}(h:CE w k b N f)(o:g≠b)(cs:Array Value):CE (w.setRow g cs) k b N f :=
 h.kept (r:=some g) ⟨rfl,rfl,rfl,by simp,λk G d=>setRow_other _ _ _ _ (λe=>d (by rw[e]))⟩ (λe=>o (aI e).symm)
def yo3(w:World)(B N:Nat)(d:B<=w.heap.size)(o:N<=1000000):(w.alloc (.cells (madeCells #[nI 0] N) 3)).ownsRow B 3 1 (.slice (sA w.heap.size 0) N N) N (ilL (List.replicate N 0)):=by have h:=World.ownsRow_lit (base:=B) (e:=3) (size:=1) w (madeCells #[nI 0] N) N d (by unfold maxLen;omega) (by rw[size_madeCells];omega);rw[toList_madeCells_one]at h;simpa[ilL] using h
def yz1(N:Nat):cnL N []=List.replicate N 0:=by
 unfold cnL;apply eD;intro i;simp only[aX,dS];by_cases h:i<N
 ·rw[cF h,aG h];rfl
 rw[aS (by simp;omega),aC h];rfl
def FS.start{u:World}{a:Nat->Value}{J:Value}(h:F0 W u a N J)(d:a 9=nI (p.cap:Nat))(hm:SL W 1 (a 12) N (mgB N p))(X:0<N/\N<=1000)(Z:p.cap<=10)(hT:Lib.TabBelow Tryz.prog W.heap.size W "internal/strconv.uint64pow10" .u64 Lib.pow10Tab) :
  ∃F:FF,J=pA F.gf 0/\F.N=N/\FOk W F p/\FS W F u (sZ) (sZ) [] [] [] []:=by
 obtain⟨gf,Y,K,G,O,R,L,l1,l2,l3,d1,d2,d3⟩:=h.at_;refine⟨⟨gf,Y,K,u.heap.size,N,N,a⟩,G,rfl,⟨l1,l2,l3,za2 O,R.lt,(L.lt K rfl).2,d1,d2,d3,d,?_,hT,⟨by show N<=_;omega,Z⟩⟩,⟨h.ok,aK _,O,⟨[],rfl,World.ownsRow_nil _ _ _ _,λi v x hv=>by simp at hv,λi j y x _ hy=>by simp at hy⟩,World.ownsRow_nil _ _ _ _,R.as λI kl _=>?_,?_⟩⟩
 ·obtain⟨b,o,cap,e1,e2,e3⟩:=hm.at dC X.1
  exact⟨b,o,cap,e1,e2,λn hn=>e3 n _ (by unfold mgB;rw[aX,cF hn];rfl)⟩
 ·cases I<;>rfl
 show u.ownsRow W.heap.size 3 1 _ N (ilL (cnL N []));rw[yz1];exact L
def FS.link{F:FF}{O R o:Value}{vm Y:List Vx}{K:List Lk}(h:FS w0 F w O R vs vm Y K)(d:FOk w0 F p){l:Lk}(I:w'.ownsRow F.B 78 3 o (K.length+1) (lkL K++[nI (l.1:Nat),nI (l.2.1:Nat),nI (l.2.2:Nat)]))(G:w.grownBy w' R.ownBlock) :
  FS w0 F (w'.setCell (aD F.gf 14) o) O o vs vm Y (K++[l]):=by
 have Z:∀b,b<F.B->w'.heap[b]?=w.heap[b]?:=λb I=>G.block b (lL_ I h.le) λe=>zf4 h.lo I e.symm;obtain⟨tl,X,J,h3,h4⟩:=h.vo;have hc:∀(y:Value×Value) (u:Tok),AD w F.B y.1 y.2 u->AD (w'.setCell (aD F.gf 14) o) F.B y.1 y.2 u:=λy u L=>⟨zc7 (zd6 L.hist h.lo dC G) (zf4 L.hist d.fB) _,zc7 (zd6 L.loops h.lo dC G) (zf4 L.loops d.fB) _⟩;refine⟨(h.ok.grown G (λb e=>by have X:=(h.lo.lt b e).1;have J:=d.f0;have h3:=d.fB;omega)).set d.f0 _,by have X:=h.le;have J:=G.size;simp;omega,?_,⟨tl,X,zc7 (zd6 J h.lo (by decide) G) (zf4 J d.fB) _,λi v x hv hx=>hc x _ (h3 i v x hv hx),h4⟩,?_,(h.mp.kept G (λe=>zf4 h.lo d.mB e.symm)).set (λe=>d.fm e.symm) _,zc7 (zb4 h.tk λb e=>by cases e;exact Z _ d.tB) (λe=>d.ft (aI e).symm) _⟩
 ·rw[<-yc4 F O R o]
  exact heap_setCell_same _ _ _ _ _ _ ((Z _ d.fB).trans h.row)
 rw[yy5,aA,aZ];exact zc7 I (zf4 I d.fB) _
def wq1:(Tryz.prog.info? 78).map (λi=>(i.zero,i.size,i.bytes))=some (some (.agg #[nI 0,nI 0,nI 0]),3,24):=by kernel_rfl
def ws4:(Tryz.prog.info? 218).map (·.size)=some 17:=by kernel_rfl
def wd0{a0 a1 a2 a3 a4 a5 a6 a7 a8 a9 a10 a11 a12:Value}{t:TypeId}(h:w.heap[g]?=some (.cells #[a0,a1,a2,a3,a4,a5,a6,a7,a8,a9,a10,a11,a12] t (0,0))) :
  w.cell? (aD g 0)=some a0/\w.cell? (aD g 1)=some a1/\w.cell? (aD g 2)=some a2/\w.cell? (aD g 3)=some a3/\w.cell? (aD g 4)=some a4/\w.cell? (aD g 5)=some a5/\w.cell? (aD g 6)=some a6/\w.cell? (aD g 7)=some a7/\w.cell? (aD g 8)=some a8/\w.cell? (aD g 9)=some a9/\w.cell? (aD g 10)=some a10/\w.cell? (aD g 11)=some a11/\w.cell? (aD g 12)=some a12/\g<w.heap.size :=
 ⟨(cell_of_row _ _ 0 _ _ _ h).trans rfl,(cell_of_row _ _ 1 _ _ _ h).trans rfl,(cell_of_row _ _ 2 _ _ _ h).trans rfl,(cell_of_row _ _ 3 _ _ _ h).trans rfl,(cell_of_row _ _ 4 _ _ _ h).trans rfl,(cell_of_row _ _ 5 _ _ _ h).trans rfl,(cell_of_row _ _ 6 _ _ _ h).trans rfl,(cell_of_row _ _ 7 _ _ _ h).trans rfl,(cell_of_row _ _ 8 _ _ _ h).trans rfl,(cell_of_row _ _ 9 _ _ _ h).trans rfl,(cell_of_row _ _ 10 _ _ _ h).trans rfl,(cell_of_row _ _ 11 _ _ _ h).trans rfl,(cell_of_row _ _ 12 _ _ _ h).trans rfl,za2 h⟩
def OI(W:World)(F:FF)(p:Pl)(f fr:Nat)(wr:World):Prop:=∃(vv lv:Value) (vs:List Vx) (ls:List Lk),FS W F wr vv lv vs vs vs ls/\VJ p vs/\FI p fr vs ls/\fr<=f/\p.verts (f-fr) fr vs ls=p.find f
def II(W:World)(F:FF)(p:Pl)(L0 fr j:Nat)(v:Vx)(vs0:List Vx)(R:Int⊕(List Vx×List Lk))(g5:Nat)(r5:Obj)(xv yv:Value)(wr:World):Prop:=∃(vv lv:Value) (vs:List Vx) (ls:List Lk),FS W F wr vv lv vs vs vs ls/\VJ p vs/\(∃ws,vs=vs0++ws)/\p.edges fr v.2 ((CD p.es v.1).drop j) vs ls=R/\wr.heap[g5]?=some r5/\vv.ownBlock≠some g5/\ls.length=L0+j/\AD wr F.B xv yv v.2
def TkB.up{M':Nat}(h:TkB M t)(d:M<=M'):TkB M' t:=⟨Nat.le_trans h.hl d,aH h.ll d,h.hi,h.li⟩
def AD.vk{F:FF}{x y J I:Value}{n:Nat}{L:List Value}(h:AD w F.B x y t)(R:VK F w J w' I)(d:FOk w0 F p)(O:w.ownsRow F.B 76 4 J n L):AD w' F.B x y t:=by
 have o:∀b,F.B<=b->(∃c t f,w.heap[b]?=some (.cells c t f)/\t≠76)->w'.heap[b]?=w.heap[b]?:=λb o ⟨c,t,f,G,K⟩=>by rw[G];exact R.far b _ G (oH d.fB) (oH d.mB) (oH d.tB) (zb6 O G K)
 exact⟨zb4 h.hist λb e=>o b (h.hist.lt b e).1 (by obtain⟨c,f,k⟩:=zf9 h.hist b e;exact⟨c,_,f,k,by decide⟩),zb4 h.loops λb e=>o b (h.loops.lt b e).1 (by obtain⟨c,f,k⟩:=zf9 h.loops b e;exact⟨c,_,f,k,by decide⟩)⟩
def yv5:∀{es:List Ed} {i:Nat} {e:Ed},es[i]?=some e->(edL es)[i*6+1]?=some (nI e.to')
 | [],i,e,h=>by simp at h
 | d::es,i,e,h=>by
  have q:edL (d::es)=nI d.from'::nI d.to'::nI d.op::nI d.place::.bool d.sense::.bool d.loop::edL es:=by simp[edL,edV]
  cases i with
  | zero =>
   simp only[bR,cD]at h;subst h;rw[q];rfl
  | succ i =>
   simp only[bF]at h;have:=yv5 h;rw[q,show(i+1)*6+1=i*6+1+1+1+1+1+1+1 by omega];exact this
def zr0(es:List Ed)(n:Int):(CD es n).length<=es.length:=by unfold CD;have h:=eP (λx:Nat×Ed=>decide (x.2.from'=n)) ((List.range es.length).zip es);simp at h ⊢;omega
def zt5{α:Type}:∀(d:List (List α)),(∀l∈d,l.length<=M)->d.flatten.length<=d.length*M
 | [],_=>by simp
 | l::d,h=>by have G:=zt5 d λx o=>h x (bG _ o);have I:=h l aY;rw[bY,aA,aR,fJ];omega
def FI.len{fr:Nat}{d:List Lk}(h:FI p fr vs d):d.length<=fr*p.es.length:=by obtain⟨L,I,G,O⟩:=h.rows;rw[G,<-I];refine zt5 L λl o=>?_;obtain⟨i,J⟩:=bW.1 o;obtain⟨v,_,K⟩:=O i l J;rw[K.1];exact zr0 _ _
def yz2(h:VI p vs)(G:FO N p.es){v:Vx}(I:v∈vs):∃k:Nat,v.1=(k:Int)/\k<N:=by
 have o:0<=v.1/\v.1<(N:Int):=by
  rcases h.dom v I with e | ⟨d,o,h2⟩
  ·rw[e];have:=G.1;omega
  have:=G.2 d o;omega
 exact⟨v.1.toNat,oM,oM⟩
def zU3(p:Pl)(d:0<p.cap):p.vert [] ((0:Nat):Int) FV=some ([(0,p.tok 0 FV)],0):=by
 have h:¬many [] ((0:Nat):Int)=p.cap:=by show ¬0=p.cap;omega
 unfold Pl.vert;show(if many [] ((0:Nat):Int)=p.cap then Option.none else some _)=_;rw[aC h];rfl
def zU4{fr:Nat}{d:List (Nat×Ed)}{j:Nat}{x:Nat×Ed}(I:d[j]?=some x)(vs:List Vx)(o:List Lk):p.edges fr t (d.drop j) vs o=match p.vert vs x.2.to' (AM p.H p.U x.2 x.1 t) with | none=>.inl x.2.to' | some r=>p.edges fr t (d.drop (j+1)) r.1 (o++[(fr,r.2,x.1)]):=by obtain⟨G,e⟩:=aE.1 I;rw[aP G,e];rfl
def wb6:(Tryz.prog.info? 37).map (·.size)=some 3:=by kernel_rfl
def zt2(h:Ok W D):∃(E:World) (g:Nat),(D.alloc (.map #[] 0)=E/\D.heap.size=g)/\Ok D E/\Ok W E/\Hi (CE E 9 g 0 (λ_=>Option.none))/\Hi (D.heap.size<=g/\g<E.heap.size) :=
 ⟨_,_,⟨rfl,rfl⟩,(Ok.refl D).alloc _,h.alloc _,CE.made D 9,aK _,by simp⟩
def zt3(h:Ok W D)(d:N<=1000000):∃(E:World) (g:Nat),(D.alloc (.cells (madeCells #[nI 0] N) 3)=E/\D.heap.size=g)/\Ok D E/\Ok W E/\Hi (E.ownsRow W.heap.size 3 1 (.slice (sA g 0) N N) N (ilL (List.replicate N 0)))/\Hi (D.heap.size<=g/\g<E.heap.size) :=
 ⟨_,_,⟨rfl,rfl⟩,(Ok.refl D).alloc _,h.alloc _,yo3 D W.heap.size N h.le d,aK _,by simp⟩
def yc1(h:Ok W D)(cs:Array Value)(t:TypeId):∃(E:World) (g:Nat),(D.alloc (.cells cs t)=E/\D.heap.size=g)/\Ok D E/\Ok W E/\Hi (E.heap[g]?=some (.cells cs t (0,0)))/\Hi (D.heap.size<=g/\g<E.heap.size) :=
 ⟨_,_,⟨rfl,rfl⟩,(Ok.refl D).alloc _,h.alloc _,za3 _ _,aK _,by simp⟩
def zt4(h:Ok W D):∃(E:World) (g:Nat),(D.alloc (.cells #[sZ,sZ,sZ,sZ,sZ,sZ,nI 0,nI 0,sZ,nI 0,sZ,sZ,sZ,sZ,sZ,.map none,sZ] 218)=E/\D.heap.size=g)/\Ok D E/\Ok W E/\Hi (E.heap[g]?=some (.cells #[sZ,sZ,sZ,sZ,sZ,sZ,nI 0,nI 0,sZ,nI 0,sZ,sZ,sZ,sZ,sZ,.map none,sZ] 218 (0,0)))/\Hi (D.heap.size<=g/\g<E.heap.size):=yc1 h _ _
set_option maxHeartbeats 8000000 in
def yo1(a:Nat->Value)(N:Nat)(p:Pl)(f:Nat)(w:World)(h:PI w a N p)(hp:PB N p)(hf:N*p.cap<f)(hT:Lib.TabBelow Tryz.prog w.heap.size w "internal/strconv.uint64pow10" .u64 Lib.pow10Tab) :
  Calls Tryz.prog 69 #[.agg #[a 0,a 1,a 2,a 3,a 4,a 5,a 6,a 7,a 8,a 9,a 10,a 11,a 12]] w λe w'=>wm8 w p f e w':=by
 have HP:=hid h;have HB:=hid hp;have HF:=hid hf;have w7:=hid hT;obtain⟨g0,n0,k0,O⟩:=h.sls 0 oM;obtain⟨g1,n1,k1,I⟩:=h.sls 1 oM;obtain⟨g2,n2,k2,X⟩:=h.sls 2 oM;obtain⟨g3,n3,k3,J⟩:=h.sls 3 oM;obtain⟨g4,n4,k4,d⟩:=h.sls 4 oM;obtain⟨g5,n5,k5,G⟩:=h.sls 5 oM;obtain⟨x7,L⟩:=h.exi;obtain⟨_,_,o8,c8,e8,_⟩:=h.edges;obtain⟨sv,⟨_,_,a5,Z,K,_⟩,_⟩:=h.steps;obtain⟨ov,⟨_,_,a1,a4,Y,_⟩,_⟩:=h.outs;obtain⟨_,_,a2,a3,R,_⟩:=h.mrg;have HA:Hi (a 0=.slice g0 n0 k0/\a 1=.slice g1 n1 k1/\a 2=.slice g2 n2 k2/\a 3=.slice g3 n3 k3/\a 4=.slice g4 n4 k4/\a 5=.slice g5 n5 k5/\a 7=nI x7/\a 6=nI (N:Nat)/\a 8=.slice o8 p.es.length c8/\a 9=nI (p.cap:Nat)/\a 10=.slice a5 p.es.length Z/\a 11=.slice a1 N a4/\a 12=.slice a2 N a3):=⟨O,I,X,J,d,G,L,h.nodes,e8,h.cap,K,Y,R⟩;rw[O,I,X,J,d,G,L,h.nodes,e8,h.cap,K,Y,R];clear h hp hf hT O I X J d G L e8 K Y R;have c0:Hi (N<=1000000):=by have:=HB.o.small.1;unfold Hi;omega
 have s9:=@run_makeMap Tryz.prog;have x4:=run_make_row' (P:=Tryz.prog) 28 3 (nI 0) 8 Tryz.underlying28 wb7 rfl .i64 .i64 N (oH HB.o.small.1) (oH HB.o.small.1);go_enter Tryz.func69,Tryz.ntmps69
 go_upto_region 1 with (fail)
 obtain⟨W,I⟩:=qq ((w.alloc (Obj.cells #[.slice g0 n0 k0,.slice g1 n1 k1,.slice g2 n2 k2,.slice g3 n3 k3,.slice g4 n4 k4,.slice g5 n5 k5,nI (N:Nat),nI x7,.slice o8 p.es.length c8,nI (p.cap:Nat),.slice a5 p.es.length Z,.slice a1 N a4,.slice a2 N a3] 111)).alloc (Obj.cells #[sZ,sZ,sZ] 37));obtain⟨gp,G⟩:=qq (w.heap.size);obtain⟨gr,d⟩:=qq (w.heap.size+1);rw[<-I,<-d,<-G];have HK:Hi (Ok w W):=by rw[I];exact((Ok.refl w).alloc _).alloc _
 have c3:Hi (W.heap[gp]?=some (.cells #[Value.slice g0 n0 k0,Value.slice g1 n1 k1,Value.slice g2 n2 k2,Value.slice g3 n3 k3,Value.slice g4 n4 k4,Value.slice g5 n5 k5,nI (N:Nat),nI x7,Value.slice o8 p.es.length c8,nI (p.cap:Nat),Value.slice a5 p.es.length Z,Value.slice a1 N a4,Value.slice a2 N a3] 111 (0,0))):=by rw[I,G];exact jj
 have t3:Hi (W.heap[gr]?=some (.cells #[sZ,sZ,sZ] 37 (0,0))):=by rw[I,d];exact jj
 have HG:Hi (w.heap.size<=gp/\w.heap.size<=gr/\gp<W.heap.size/\gr<W.heap.size):=by unfold Hi;rw[I];simp;omega
 clear I G d;obtain⟨p0,p1,p2,p3,p4,p5,p6,p7,p8,p9,d9,d8,d7,f2⟩:=wd0 c3.o
 go_cut [3] from 9 to 15 (λs3 u=>Hi (F0 W u a N s3))
 case first =>
  refine wp_region_held_drew (S:=λw'=>Ok W w') kR (Below.drew (Ok.refl _)) (λd=>?_);obtain⟨D,hD⟩:=qq (W.drew);rw[<-hD]at d ⊢;clear hD p0 p1 p2 p3 p4 p5 p6 p7 p8 p9 d9 d8 d7 f2;refine tH 0 (.agg #[.slice g0 n0 k0,.slice g1 n1 k1,.slice g2 n2 k2,.slice g3 n3 k3,.slice g4 n4 k4,.slice g5 n5 k5,nI (N:Nat),nI x7,.slice o8 p.es.length c8,nI (p.cap:Nat),.slice a5 p.es.length Z,.slice a1 N a4,.slice a2 N a3]) ?_ d ?_
  ·intro w' s0;obtain⟨q0,q1,q2,q3,q4,q5,q6,q7,q8,q9,i9,s7,v3,j3⟩:=wd0 (Ok.row' s0 c3.o);clear s0;go_simp;try with_reducible rfl
  (try simp only[pu]);refine tJ 2 (pA gp 0) d ?_;(try simp only[pu]);refine tJ 3 (pA gp 6) d ?_;(try simp only[pu]);refine tH 4 (nI (N:Nat)) ?_ d ?_
  ·intro w' s0;obtain⟨q0,q1,q2,q3,q4,q5,q6,q7,q8,q9,i9,s7,v3,j3⟩:=wd0 (Ok.row' s0 c3.o);clear s0;go_simp;try with_reducible rfl
  (try simp only[pu]);have x9:=hid d.le;refine wpAnyH_ready (rs:=[1,5,7]) kR sI ?_;refine AllReadyH.cons rfl (λK I=>?_) (AllReadyH.cons rfl (λK I=>?_) (AllReadyH.cons rfl (λK I=>?_) AllReadyH.nil));go_simp;obtain⟨X1,Y,G,J,L,X,c9⟩:=zt2 d;rw[G.1,G.2];refine I.out _ _ L (λd=>?_);clear I K G L J;(try simp only[pu]);refine wpAnyH_ready (rs:=[5,7]) kR sI ?_;refine AllReadyH.cons rfl (λK I=>?_) (AllReadyH.cons rfl (λK I=>?_) AllReadyH.nil);go_simp;obtain⟨X2,gt,G,J,L,R,c4⟩:=zt3 d c0.o;rw[G.1,G.2];replace X:Hi (CE X2 9 Y 0 (λ_=>Option.none)):=X.o.ok J;refine I.out _ _ L (λd=>?_);clear I K G L J;(try simp only[pu]);refine tJ 6 (.agg #[.slice g0 n0 k0,.slice g1 n1 k1,.slice g2 n2 k2,.slice g3 n3 k3,.slice g4 n4 k4,.slice g5 n5 k5,nI (N:Nat),nI x7,.slice o8 p.es.length c8,nI (p.cap:Nat),.slice a5 p.es.length Z,.slice a1 N a4,.slice a2 N a3,sZ,sZ,.map (some Y),.slice (sA gt 0) N N]) d ?_;(try simp only[pu]);refine wpAnyH_ready (rs:=[7]) kR sI ?_;refine AllReadyH.cons rfl (λK I=>?_) AllReadyH.nil;go_simp;obtain⟨X3,gf,G,J,L,O,b9⟩:=zt4 d;rw[G.1,G.2];replace X:Hi (CE X3 9 Y 0 (λ_=>Option.none)):=X.o.ok J;replace R:Hi _:=za1 R.o J;refine I.out _ _ L (λd=>?_);clear I K G L J;(try simp only[pu]);rotate_left;go_simp;obtain⟨X2,gf,G,J,L,O,b9⟩:=zt4 d;rw[G.1,G.2];replace X:Hi (CE X2 9 Y 0 (λ_=>Option.none)):=X.o.ok J;refine I.out _ _ L (λd=>?_);clear I K G L J;(try simp only[pu]);refine wpAnyH_ready (rs:=[5]) kR sI ?_;refine AllReadyH.cons rfl (λK I=>?_) AllReadyH.nil;go_simp;obtain⟨X3,gt,G,J,L,R,c4⟩:=zt3 d c0.o;rw[G.1,G.2];replace X:Hi (CE X3 9 Y 0 (λ_=>Option.none)):=X.o.ok J;replace O:Hi _:=Ok.row' J O.o;refine I.out _ _ L (λd=>?_);clear I K G L J;(try simp only[pu]);refine tJ 6 (.agg #[.slice g0 n0 k0,.slice g1 n1 k1,.slice g2 n2 k2,.slice g3 n3 k3,.slice g4 n4 k4,.slice g5 n5 k5,nI (N:Nat),nI x7,.slice o8 p.es.length c8,nI (p.cap:Nat),.slice a5 p.es.length Z,.slice a1 N a4,.slice a2 N a3,sZ,sZ,.map (some Y),.slice (sA gt 0) N N]) d ?_;(try simp only[pu]);rotate_left;go_simp;obtain⟨X1,gt,G,J,L,R,c4⟩:=zt3 d c0.o;rw[G.1,G.2];refine I.out _ _ L (λd=>?_);clear I K G L J;(try simp only[pu]);refine wpAnyH_ready (rs:=[1,7]) kR sI ?_;refine AllReadyH.cons rfl (λK I=>?_) (AllReadyH.cons rfl (λK I=>?_) AllReadyH.nil);go_simp;obtain⟨X2,Y,G,J,L,X,c9⟩:=zt2 d;rw[G.1,G.2];replace R:Hi _:=za1 R.o J;refine I.out _ _ L (λd=>?_);clear I K G L J;(try simp only[pu]);refine tJ 6 (.agg #[.slice g0 n0 k0,.slice g1 n1 k1,.slice g2 n2 k2,.slice g3 n3 k3,.slice g4 n4 k4,.slice g5 n5 k5,nI (N:Nat),nI x7,.slice o8 p.es.length c8,nI (p.cap:Nat),.slice a5 p.es.length Z,.slice a1 N a4,.slice a2 N a3,sZ,sZ,.map (some Y),.slice (sA gt 0) N N]) d ?_;(try simp only[pu]);refine wpAnyH_ready (rs:=[7]) kR sI ?_;refine AllReadyH.cons rfl (λK I=>?_) AllReadyH.nil;go_simp;obtain⟨X3,gf,G,J,L,O,b9⟩:=zt4 d;rw[G.1,G.2];replace R:Hi _:=za1 R.o J;replace X:Hi (CE X3 9 Y 0 (λ_=>Option.none)):=X.o.ok J;refine I.out _ _ L (λd=>?_);clear I K G L J;(try simp only[pu]);rotate_left;go_simp;obtain⟨X2,gf,G,J,L,O,b9⟩:=zt4 d;rw[G.1,G.2];replace R:Hi _:=za1 R.o J;refine I.out _ _ L (λd=>?_);clear I K G L J;(try simp only[pu]);refine wpAnyH_ready (rs:=[1]) kR sI ?_;refine AllReadyH.cons rfl (λK I=>?_) AllReadyH.nil;go_simp;obtain⟨X3,Y,G,J,L,X,c9⟩:=zt2 d;rw[G.1,G.2];replace R:Hi _:=za1 R.o J;replace O:Hi _:=Ok.row' J O.o;refine I.out _ _ L (λd=>?_);clear I K G L J;(try simp only[pu]);refine tJ 6 (.agg #[.slice g0 n0 k0,.slice g1 n1 k1,.slice g2 n2 k2,.slice g3 n3 k3,.slice g4 n4 k4,.slice g5 n5 k5,nI (N:Nat),nI x7,.slice o8 p.es.length c8,nI (p.cap:Nat),.slice a5 p.es.length Z,.slice a1 N a4,.slice a2 N a3,sZ,sZ,.map (some Y),.slice (sA gt 0) N N]) d ?_;(try simp only[pu]);rotate_left;go_simp;obtain⟨X1,gf,G,J,L,O,b9⟩:=zt4 d;rw[G.1,G.2];refine I.out _ _ L (λd=>?_);clear I K G L J;(try simp only[pu]);refine wpAnyH_ready (rs:=[1,5]) kR sI ?_;refine AllReadyH.cons rfl (λK I=>?_) (AllReadyH.cons rfl (λK I=>?_) AllReadyH.nil);go_simp;obtain⟨X2,Y,G,J,L,X,c9⟩:=zt2 d;rw[G.1,G.2];replace O:Hi _:=Ok.row' J O.o;refine I.out _ _ L (λd=>?_);clear I K G L J;(try simp only[pu]);refine wpAnyH_ready (rs:=[5]) kR sI ?_;refine AllReadyH.cons rfl (λK I=>?_) AllReadyH.nil;go_simp;obtain⟨X3,gt,G,J,L,R,c4⟩:=zt3 d c0.o;rw[G.1,G.2];replace O:Hi _:=Ok.row' J O.o;replace X:Hi (CE X3 9 Y 0 (λ_=>Option.none)):=X.o.ok J;refine I.out _ _ L (λd=>?_);clear I K G L J;(try simp only[pu]);refine tJ 6 (.agg #[.slice g0 n0 k0,.slice g1 n1 k1,.slice g2 n2 k2,.slice g3 n3 k3,.slice g4 n4 k4,.slice g5 n5 k5,nI (N:Nat),nI x7,.slice o8 p.es.length c8,nI (p.cap:Nat),.slice a5 p.es.length Z,.slice a1 N a4,.slice a2 N a3,sZ,sZ,.map (some Y),.slice (sA gt 0) N N]) d ?_;(try simp only[pu]);rotate_left;go_simp;obtain⟨X2,gt,G,J,L,R,c4⟩:=zt3 d c0.o;rw[G.1,G.2];replace O:Hi _:=Ok.row' J O.o;refine I.out _ _ L (λd=>?_);clear I K G L J;(try simp only[pu]);refine wpAnyH_ready (rs:=[1]) kR sI ?_;refine AllReadyH.cons rfl (λK I=>?_) AllReadyH.nil;go_simp;obtain⟨X3,Y,G,J,L,X,c9⟩:=zt2 d;rw[G.1,G.2];replace O:Hi _:=Ok.row' J O.o;replace R:Hi _:=za1 R.o J;refine I.out _ _ L (λd=>?_);clear I K G L J;(try simp only[pu]);refine tJ 6 (.agg #[.slice g0 n0 k0,.slice g1 n1 k1,.slice g2 n2 k2,.slice g3 n3 k3,.slice g4 n4 k4,.slice g5 n5 k5,nI (N:Nat),nI x7,.slice o8 p.es.length c8,nI (p.cap:Nat),.slice a5 p.es.length Z,.slice a1 N a4,.slice a2 N a3,sZ,sZ,.map (some Y),.slice (sA gt 0) N N]) d ?_;(try simp only[pu]);rotate_left
  all_goals
   refine wpAnyH_ready (rs:=[8]) kR sI ?_;refine AllReadyH.cons rfl (λK I=>?_) AllReadyH.nil;have hq:W.heap.size<=gf/\W.heap.size<=Y/\W.heap.size<=gt/\gf≠Y/\gf≠gt/\Y≠gt:=by have h1:=b9.o;have h2:=c9.o;have h3:=c4.o;have h4:=x9.o;omega
   refine zg9 rfl 218 _ _ rfl gf 218 _ (#[.slice g0 n0 k0,.slice g1 n1 k1,.slice g2 n2 k2,.slice g3 n3 k3,.slice g4 n4 k4,.slice g5 n5 k5,nI (N:Nat),nI x7,.slice o8 p.es.length c8,nI (p.cap:Nat),.slice a5 p.es.length Z,.slice a1 N a4,.slice a2 N a3,sZ,sZ,.map (some Y),.slice (sA gt 0) N N]) (by rfl) (by rfl) O.o ws4 rfl (by simp[Value.oneCell']) rfl ?_;refine I.out _ _ (zd0 d hq.1 _) (λt8=>?_);clear I K;refine wpAnyH_done kR ?_ _;have Hq:=hid hq;clear hq;go_wp2_with fail
   go_meet
   obtain⟨h0,h1,h2,h3,h4,h5,h7,h6,h8,h9,x0,x1,t7⟩:=HA.o
   case rel=>exact⟨⟨gf,Y,gt,rfl,by rw[h0,h1,h2,h3,h4,h5,h7,h6,h8,h9,x0,x1,t7];exact setRow_heap _ _ _ _ _ _ O.o,CE.row X.o Hq.o.2.2.2.1 _,zb4 R.o (λb L=>setRow_other _ _ _ _ (by cases L;exact eL Hq.o.2.2.2.2.1)),Hq.o.1,Hq.o.2.1,Hq.o.2.2.1,Hq.o.2.2.2⟩,t8⟩
 obtain⟨F,w3,X,R,G⟩:=FS.start hcut.o HP.o.cap (HP.o.mrg.below HK.o) ⟨HB.o.win.1,HB.o.small.1⟩ HB.o.small.2.1 (λw' w6=>w7.o w' (Below.trans HK.o (w6.mono HK.o.le)));subst w3;obtain⟨u,hu⟩:=qq (wc);rw[<-hu]at G ⊢;have O:=hid R;have Y:=hid G;have r9:=hid X;clear hu R G X hcut p0 p1 p2 p3 p4 p5 p6 p7 p8 p9 d9 d8 d7 f2 s9 x4;have G:Hi (VJ p []):=⟨λv X=>by simp at X,λi v X=>by simp at X,⟨List.nodup_nil,λn=>dQ _,λv X=>by simp at X,λv X=>by simp at X⟩⟩;have o7:Hi (Calls Tryz.prog 106 #[pA F.gf 0,nI 0,.agg #[.bool false,sZ,sZ]] u λe w'=>wk7 W F p (sZ) [] [] 0 FV u (sZ) e w'):=zx3 Y.o O.o G.o (k:=0) (by rw[r9.o];exact HB.o.win.1) (.inl rfl) FV (sZ) (sZ) ⟨World.ownsRow_nil _ _ _ _,World.ownsRow_nil _ _ _ _⟩ (λh=>by cases h) ⟨by simp[FV],by simp[FV],by simp[FV],by simp[FV]⟩ (by simp) FE.nil;go_wp2_with fail;refine o7.o.mono ?_;rintro e w1 X;unfold wk7 at X;rw[zU3 p HB.o.pos]at X;obtain⟨rfl,t6,R,o9,_⟩:=X;have o0:Hi (OI W F p f 0 w1):=⟨t6,_,_,_,R,o9,FI.start p HB.o.pos,zL_ _,rfl⟩;clear R o9 G o7 Y;go_wp2_with fail;go_loopw [4] (λt4 wr=>∃G:Nat,t4=nI (G:Nat)/\Hi (OI W F p f G wr)) (λt4 _=>(((N*p.cap+1:Nat):Int)-intOf t4).toNat)
 case atStart=>exact⟨0,rfl,o0⟩
 clear o0;obtain⟨G,rfl,HR⟩:=hrel;obtain⟨vv,lv,vs,ls,hS,hJ,l8,m3,Y⟩:=HR.o;obtain⟨tl,l5,j2,R,_⟩:=hS.vo;obtain⟨vo,vc,rfl⟩:=za0 j2;obtain⟨lo,lc,rfl⟩:=za0 hS.lo;have HS:=hid hS;have HJ:=hid hJ;have s1:=hid l8;have k7:Hi (G<=f/\p.verts (f-G) G vs ls=p.find f):=⟨m3,Y⟩
 have b1:Hi (vs.length<=N*p.cap/\vs.length<=10000):=by have h1:=hJ.vi.len HB.o.win;have h2:=eI HB.o.small.1 HB.o.small.2.1;unfold Hi;omega
 have b0:Hi (tl.length=vs.length/\wr.ownsRow F.B 76 4 (.slice vo vs.length vc) vs.length (vxL vs tl)/\∀(i:Nat) (v:Vx) (x:Value×Value),vs[i]?=some v->tl[i]?=some x->AD wr F.B x.1 x.2 v.2):=⟨l5,j2,R⟩;obtain⟨_,_,x8,t0,_,_,v2,c1,_,_⟩:=hS.cells O.o;clear hS hJ l8 m3 Y l5 j2 R HR;by_cases f6:G<vs.length
 ·have m4:(G:Int)<(vs.length:Int):=za5 f6
  obtain⟨v,X⟩:∃v,vs[G]?=some v:=⟨_,gG_ f6⟩;obtain⟨x,J⟩:∃x,tl[G]?=some x:=⟨_,gG_ (oH b0.o.1)⟩;have HX:Hi (vs[G]?=some v/\tl[G]?=some x):=⟨X,J⟩;have R:=b0.o.2.2 G v x X J;obtain⟨gv,cv,e1,_⟩:=b0.o.2.1.form oM
  injection e1 with e2 e3 e4
  subst e2;clear e3 e4;obtain⟨u0,u1,u2,u3⟩:=zA2 X J;have Y:∀j u,(vxL vs tl)[j]?=some u->wr.cell? (aD gv j)=some u:=λj u hj=>by have h1:=b0.o.2.1.cells (g:=gv) rfl j u hj;rw[zb7,aL]at h1;exact h1
  have r0:=Y _ _ u0;have r1:=Y _ _ u1;have r2:=Y _ _ u2;have r3:=Y _ _ u3;have w4:gv<wr.heap.size:=(b0.o.2.1.lt gv rfl).2;obtain⟨xo,xc,e1⟩:=za0 R.hist;obtain⟨yo,yc,e2⟩:=za0 R.loops;have n6:Hi (x=(Value.slice xo v.2.2.1.length xc,Value.slice yo v.2.2.2.length yc)):=by unfold Hi;rw[<-e1,<-e2]
  rw[e1]at r2;rw[e2]at r3;obtain⟨kn,j5,b3⟩:=yz2 HJ.o.vi HB.o.win (mG_ X);have i8:Hi (v.1=(kn:Int)/\kn<N):=⟨j5,b3⟩;rw[j5]at r0;obtain⟨tb,i5⟩:=qq (v.2.1);obtain⟨xn,d6⟩:=qq (v.2.2.1.length);obtain⟨yn,f5⟩:=qq (v.2.2.2.length);rw[<-i5]at r1;rw[<-d6]at r2;rw[<-f5]at r3;have t5:Hi (tb=v.2.1/\xn=v.2.2.1.length/\yn=v.2.2.2.length):=⟨i5,d6,f5⟩;rw[<-d6,<-f5]at n6;clear i5 d6 f5;clear Y u0 u1 u2 u3 j5 X J e1 e2;obtain⟨A5,Y,o5⟩:=HP.o.outs;obtain⟨bo,oo,co,e1,e2,e3⟩:=Y.at dC b3;rw[HA.o.2.2.2.2.2.2.2.2.2.2.2.1]at e1
  injection e1 with e4 e5 e6
  subst e4 e6;clear e5;obtain⟨ou,e4,s5⟩:=o5 kn b3;have w2:=hid s5;obtain⟨_,_,po,pc,rfl,_⟩:=s5;obtain⟨m,hm⟩:=qq ((CD p.es (kn:Int)).length);have HM:Hi (m=(CD p.es (kn:Int)).length):=hm;have x3:wr.cell? ⟨bo,oo+kn,none⟩=some (.slice po m pc):=by rw[hm];exact(HK.o.step HS.o.ok).cell (p:=⟨bo,oo+kn,none⟩) e2 (e3 kn _ e4)
  have s6:bo<wr.heap.size:=lL_ e2 (HK.o.step HS.o.ok).le;have y5:(kn:Int)<(N:Int):=za5 b3;clear e2 e3 e4 hm Y o5 R;obtain⟨p0,p1,p2,p3,p4,p5,p6,p7,p8,p9,d9,d8,d7,f2⟩:=wd0 (Ok.row' HS.o.ok c3.o);go_wp2_with fail;obtain⟨gA,R⟩:=qq (wr.heap.size);obtain⟨V,hV⟩:=qq (wr.alloc (Obj.cells #[nI (kn:Nat),.bool tb,.slice xo xn xc,.slice yo yn yc] 76));rw[<-hV,<-R];have j0:Hi (Ok wr V):=by rw[hV];exact(Ok.refl wr).alloc _
  have m5:Hi (F.B<=gA):=by have:=HS.o.le;unfold Hi;omega
  have i3:Hi (AD wr F.B (.slice xo xn xc) (.slice yo yn yc) v.2):=by have h1:=b0.o.2.2 G v x HX.o.1 HX.o.2;rw[n6.o]at h1;exact h1
  have Y:Hi (II W F p ls.length G 0 v vs (p.edges G v.2 (CD p.es v.1) vs ls) gA (.cells #[nI (kn:Nat),Value.bool tb,Value.slice xo xn xc,Value.slice yo yn yc] 76 (0,0)) (.slice xo xn xc) (.slice yo yn yc) V):=⟨_,_,vs,ls,HS.o.step j0.o,HJ.o,⟨[],by simp⟩,rfl,by rw[hV,R];exact za3 _ _,λe=>by have:=(b0.o.2.1.lt _ e).2;omega,rfl,i3.o.ok j0.o⟩;obtain⟨wo,o3⟩:=qq (wr);rw[<-o3]at HS b0 j0 i3;clear o3 hV R r0 r1 r2 r3 w4 x3 s6 p0 p1 p2 p3 p4 p5 p6 p7 p8 p9 d9 d8 d7 f2 x8 t0 v2 c1;have r8:Hi (m<=5000):=by have h1:=zr0 p.es (kn:Int);have h2:=HB.o.small.2.2;have h3:=HM.o;unfold Hi;omega
  go_loopw [37] (λk8 wi=>∃j:Nat,k8=nI (j:Nat)/\j<=m/\Hi (II W F p ls.length G j v vs (p.edges G v.2 (CD p.es v.1) vs ls) gA (.cells #[nI (kn:Nat),Value.bool tb,Value.slice xo xn xc,Value.slice yo yn yc] 76 (0,0)) (.slice xo xn xc) (.slice yo yn yc) wi)) (λk8 _=>((m:Int)-intOf k8).toNat)
  case atStart=>exact⟨0,rfl,zL_ _,Y⟩
  clear Y;obtain⟨j,rfl,A4,HR⟩:=hrel;obtain⟨v5,y9,a6,R,Y,m6,m1,l6,m8,l3,o6,m0⟩:=HR.o;obtain⟨i6,j9,rfl⟩:=za0 Y.lo;obtain⟨y7,m9,g9,j6,_⟩:=Y.vo;have b8:=hid Y;have n9:=hid g9;have f7:=hid m6;have b6:Hi ((∃ws,a6=vs++ws)/\p.edges G v.2 ((CD p.es v.1).drop j) a6 R=p.edges G v.2 (CD p.es v.1) vs ls/\R.length=ls.length+j):=⟨m1,l6,o6⟩;have l0:Hi (wr.heap[gA]?=some (.cells #[nI (kn:Nat),Value.bool tb,Value.slice xo xn xc,Value.slice yo yn yc] 76 (0,0))/\v5.ownBlock≠some gA):=⟨m8,l3⟩;have x5:=hid m0;clear Y m6 m1 l6 m8 l3 o6 m0 HR m9 g9 j6;by_cases c5:j<m
  ·obtain⟨y,hy⟩:∃y,(CD p.es v.1)[j]?=some y:=⟨_,aJ (by rw[i8.o.1,<-HM.o];exact c5)⟩
   obtain⟨i,e⟩:=y;obtain⟨a9,b7⟩:=zz6.1 (mG_ hy);have HY:Hi ((CD p.es v.1)[j]?=some (i,e)/\p.es[i]?=some e/\e.from'=v.1):=⟨hy,a9,b7⟩;have f4:i<p.es.length:=(aE.1 a9).1;obtain⟨kt,j7,i4⟩:∃kt:Nat,e.to'=(kt:Int)/\kt<N:=⟨e.to'.toNat,oH (HB.o.win.2 e (mG_ a9)),oH (HB.o.win.2 e (mG_ a9))⟩;have f3:Hi (e.to'=(kt:Int)/\kt<N):=⟨j7,i4⟩;obtain⟨bu,uu,cu,e1,e2,e3⟩:=w2.o.at (by decide) (k:=j) (by rw[<-HM.o];exact c5)
   injection e1 with e4 e5 e6
   subst e4 e6;clear e5;have ru:wr.cell? ⟨bu,uu+j,none⟩=some (nI (i:Nat)):=(HK.o.step b8.o.ok).cell (p:=⟨bu,uu+j,none⟩) e2 (e3 j _ (zk6 (by unfold wh3;rw[aX,<-i8.o.1,hy];rfl)));have v4:bu<wr.heap.size:=lL_ e2 (HK.o.step b8.o.ok).le;clear e2 e3;obtain⟨be,oe,ce,e1,e2,e3⟩:=HP.o.edges.at dC f4;rw[HA.o.2.2.2.2.2.2.2.2.1]at e1
   injection e1 with e4 e5 e6
   subst e4 e6;clear e5;have r5:Hi (w.cell? ⟨be,oe+i*6+1,none⟩=some (nI (kt:Nat))/\be<w.heap.size):=⟨by rw[<-j7];exact e3 (i*6+1) _ (yv5 a9),e2⟩;clear e2 e3;obtain⟨sv,l7,l2⟩:=HP.o.steps;obtain⟨bs,os,cs,e1,e2,e3⟩:=l7.at dC f4;rw[HA.o.2.2.2.2.2.2.2.2.2.2.1]at e1
   injection e1 with e4 e5 e6
   subst e4 e6;clear e5;obtain⟨fv,o2,f1,b5,e7,z0,Y⟩:=l2 i e a9;subst e7;have r6:Hi (w.cell? ⟨bs,os+i,none⟩=some (.func (.func f1) #[] b5)/\bs<w.heap.size):=⟨e3 i _ o2,e2⟩;have t2:=hid Y;clear e2 e3 o2 Y l7 l2
   have c6:Hi (∀Y:World,Ok W Y->Y.heap[gA]?=some (.cells #[nI (kn:Nat),Value.bool tb,Value.slice xo xn xc,Value.slice yo yn yc] 76 (0,0))->Y.cell? (aD gp 8)=some (.slice (sA be oe) p.es.length c8)/\Y.cell? (aD gp 10)=some (.slice (sA bs os) p.es.length Z)/\Y.cell? ⟨be,oe+i*6+1,none⟩=some (nI (kt:Nat))/\Y.cell? ⟨bs,os+i,none⟩=some (.func (.func f1) #[] b5)/\Y.cell? (aD gA 1)=some (.bool tb)/\Y.cell? (aD gA 2)=some (.slice xo xn xc)/\Y.cell? (aD gA 3)=some (.slice yo yn yc)/\gp<Y.heap.size/\gA<Y.heap.size):=λY hY h5=>by obtain⟨_,_,_,_,_,_,_,_,q8,_,i9,_,_,j3⟩:=wd0 (Ok.row' hY c3.o);exact⟨q8,i9,(HK.o.step hY).cell (p:=⟨be,oe+i*6+1,none⟩) r5.o.2 r5.o.1,(HK.o.step hY).cell (p:=⟨bs,os+i,none⟩) r6.o.2 r6.o.1,(cell_of_row _ _ 1 _ _ _ h5).trans rfl,(cell_of_row _ _ 2 _ _ _ h5).trans rfl,(cell_of_row _ _ 3 _ _ _ h5).trans rfl,j3,za2 h5⟩
   have o1:Hi (∀Y:World,Ok w Y->EA Y (.slice xo xn xc) (.slice yo yn yc) v.2->Calls Tryz.prog f1 (#[.agg #[.bool tb,.slice xo xn xc,.slice yo yn yc]]++b5) Y λe' w'=>∃l9 r7,e'=.returned (.agg #[.bool (AM p.H p.U e i v.2).1,l9,r7])/\AD w' Y.heap.size l9 r7 (AM p.H p.U e i v.2)/\Ok Y w'):=λY hY ht=>by rw[t5.o.1];exact t2.o Y _ _ v.2 hY ht ((HJ.o.bnd G v HX.o.1).up (oH b1.o.2)).w
   have j1:Hi (CG (AM p.H p.U e i v.2)/\TkB a6.length (AM p.H p.U e i v.2)/\a6.length<=100000):=by
    have h1:=HB.o.frm e (mG_ a9);have h2:=HB.o.small;obtain⟨ws,h3⟩:=b6.o.1;have h4:vs.length<=a6.length:=by rw[h3,aA];omega
    have h5:=f7.o.vi.len HB.o.win;have h6:=eI HB.o.small.1 HB.o.small.2.1;exact⟨CG.step (HJ.o.tok v (eC HX.o.1)),(TkB.step (HJ.o.bnd G v HX.o.1) (by unfold I64;omega) (by unfold I64;omega) HB.o.unr).up oM,oM⟩
   have t9:(j:Int)<(m:Int):=za5 c5;have A3:(i:Int)<(p.es.length:Int):=za5 f4;have kw:IntKind.i64.wrap ((j:Int)+1)=((j+1:Nat):Int):=zb3 (oH r8.o);clear hy a9 b7 f4 j7 i4
   go_upto_region 10 with (fail)
   clear ru v4;refine wp_region_held_drew (S:=λw'=>Ok W w'/\w'.heap[gA]?=some (.cells #[nI (kn:Nat),Value.bool tb,Value.slice xo xn xc,Value.slice yo yn yc] 76 (0,0))) kR ⟨Below.drew b8.o.ok,l0.o.1⟩ (λd=>?_);have c7:Hi _:=b8.o.step (Below.drew (Ok.refl wr));have g6:Hi _:=x5.o.ok (Below.drew (Ok.refl wr));have i7:Hi _:=za1 n9.o (Below.drew (Ok.refl wr));obtain⟨D,hD⟩:=qq (wr.drew);have A6:Hi (Ok wr D):=by rw[hD];exact Below.drew (Ok.refl wr)
   rw[<-hD]at d c7 g6 i7 ⊢;clear hD;refine tJ 0 (pA gp 0) d ?_;(try simp only[pu]);refine tJ 1 (pA gp 8) d ?_;(try simp only[pu]);refine tH 2 (.slice (sA be oe) p.es.length c8) ?_ d ?_
   ·intro w' s0;obtain⟨z1,z2,z3,z4,z5,z6,z7,z8,z9⟩:=c6.o w' s0.1 s0.2;clear s0;go_simp;try with_reducible rfl
   (try simp only[pu]);refine tJ 3 (nI (i:Nat)) d ?_;(try simp only[pu]);refine tJ 4 (.pointer (some ⟨be,oe+i*6,none⟩)) d ?_;(try simp only[pu]);refine tJ 5 (.pointer (some ⟨be,oe+i*6+1,none⟩)) d ?_;(try simp only[pu]);refine tH 6 (nI (kt:Nat)) ?_ d ?_
   ·intro w' s0;obtain⟨z1,z2,z3,z4,z5,z6,z7,z8,z9⟩:=c6.o w' s0.1 s0.2;clear s0;go_simp;try with_reducible rfl
   (try simp only[pu]);refine tJ 7 (pA gp 10) d ?_;(try simp only[pu]);refine tH 8 (.slice (sA bs os) p.es.length Z) ?_ d ?_
   ·intro w' s0;obtain⟨z1,z2,z3,z4,z5,z6,z7,z8,z9⟩:=c6.o w' s0.1 s0.2;clear s0;go_simp;try with_reducible rfl
   (try simp only[pu]);refine tJ 9 (nI (i:Nat)) d ?_;(try simp only[pu]);refine tJ 10 (.pointer (some ⟨bs,os+i,none⟩)) d ?_;(try simp only[pu]);refine tH 11 (.func (.func f1) #[] b5) ?_ d ?_
   ·intro w' s0;obtain⟨z1,z2,z3,z4,z5,z6,z7,z8,z9⟩:=c6.o w' s0.1 s0.2;clear s0;go_simp;try with_reducible rfl
   (try simp only[pu]);refine tJ 12 (pA gA 1) d ?_;(try simp only[pu]);refine tH 13 (.agg #[.bool tb,.slice xo xn xc,.slice yo yn yc]) ?_ d ?_
   ·intro w' s0;obtain⟨z1,z2,z3,z4,z5,z6,z7,z8,z9⟩:=c6.o w' s0.1 s0.2;clear s0;go_simp;try with_reducible rfl
   (try simp only[pu]);refine wpAnyH_ready (rs:=[14]) kR sI ?_;refine AllReadyH.cons rfl (λK I=>?_) AllReadyH.nil;go_simp;refine(o1.o D (HK.o.step d.1) g6.o.is).mono ?_;rintro e1 D1 ⟨v0,x2,rfl,k6,a8⟩;have n7:=hid (k6.base c7.o.le);have t1:=hid (c7.o.vo.new a8 k6);have m2:Hi _:=c7.o.step a8;have l4:Hi _:=za1 i7.o a8;have g8:Hi _:=g6.o.ok a8;have A2:=hid a8;refine I.out _ _ ⟨d.1.step a8,Ok.row' a8 d.2⟩ (λd=>?_);clear I K k6 a8 c7 i7 g6;(try simp only[pu]);refine wpAnyH_ready (rs:=[15]) kR sI ?_;refine AllReadyH.cons rfl (λK I=>?_) AllReadyH.nil;go_simp;refine(zx3 m2.o O.o f7.o (k:=kt) (by rw[r9.o];exact f3.o.2) (.inr ⟨e,eC HY.o.2.1,f3.o.1⟩) (AM p.H p.U e i v.2) v0 x2 n7.o j1.o.1 j1.o.2.1 j1.o.2.2 t1.o).mono ?_;rintro e2 D2 X
   have l1:Hi (p.edges G v.2 (CD p.es v.1) vs ls=match p.vert a6 (kt:Int) (AM p.H p.U e i v.2) with | none=>.inl (kt:Int) | some r=>p.edges G v.2 ((CD p.es v.1).drop (j+1)) r.1 (R++[(G,r.2,i)])):=by unfold Hi;rw[<-b6.o.2.1,zU4 HY.o.1,f3.o.1];try rfl
   unfold wk7 at X
   cases b2:p.vert a6 (kt:Int) (AM p.H p.U e i v.2) with
   | none =>
    rw[b2]at X;obtain⟨rfl,i2⟩:=X
    have w5:Hi (p.find f=.inl (kt:Int)):=by unfold Hi;have h1:=l1.o;rw[b2]at h1;rw[<-k7.o.2];obtain⟨g,hg⟩:∃g,f-G=g+1:=⟨f-G-1,by have h2:=b1.o.1;have h3:=HF.o;omega⟩;rw[hg];unfold Pl.verts;rw[HX.o.1];simp only[h1]
    have v1:=hid i2;clear i2 b2;show bodyPost Tryz.prog Tryz.f69 (λe w'=>wm8 w p f e w') (Exit.panic _) _ D2;refine⟨rfl,?_⟩;unfold wm8;rw[w5.o];exact⟨rfl,HK.o.step v1.o⟩
   | some r =>
    rw[b2]at X;obtain⟨rfl,k9,o4,m7,b4⟩:=X;have i0:Hi (p.edges G v.2 ((CD p.es v.1).drop (j+1)) r.1 (R++[(G,r.2,i)])=p.edges G v.2 (CD p.es v.1) vs ls):=by have h1:=l1.o;rw[b2]at h1;exact h1.symm
    have i1:Hi (∃ws,r.1=vs++ws):=by obtain⟨ws,h3⟩:=b6.o.1;obtain⟨l,h4,_⟩:=(zo5 f7.o.vi (.inr ⟨e,mG_ HY.o.2.1,f3.o.1⟩) b2).2.1;exact⟨ws++l,by rw[h4,h3,bN]⟩
    have a7:=hid o4;have r4:=hid m7
    have g7:Hi (D2.heap[gA]?=some (.cells #[nI (kn:Nat),Value.bool tb,Value.slice xo xn xc,Value.slice yo yn yc] 76 (0,0))/\k9.ownBlock≠some gA):=by
     have h0:=m5.o;have h1:=O.o.fB;have h2:=O.o.mB;have h3:=O.o.tB;refine⟨b4.far gA _ d.2 oM oM oM l0.o.2,λe9=>?_⟩;rcases b4.at_ gA e9 with h5 | h5
     ·exact l0.o.2 h5
     have:=za2 d.2;omega
    have v6:=hid (g8.o.vk b4 O.o l4.o);obtain⟨r1,r2⟩:=r;simp only at i0 i1 a7 r4;dsimp only;refine I.out _ _ ⟨a7.o.ok,g7.o.1⟩ (λd=>?_);clear I K o4 m7 b4 b2 l1 m2 l4 g8 n7;(try simp only[pu]);refine wpAnyH_ready (rs:=[16]) kR sI ?_;refine AllReadyH.cons rfl (λK I=>?_) AllReadyH.nil;go_simp;refine I.out _ _ d (λd=>?_);clear I K;(try simp only[pu]);refine wpAnyH_done kR ?_ _;obtain⟨_,_,x6,n8,_,_,s2,c1,_,_⟩:=a7.o.cells O.o;have df:=s2 14
    have s8:Hi (R.length<=60000000):=by have h1:=s1.o.len;have h2:=b6.o.2.2;have h3:=eI (aH (dL f6) b1.o.2) HB.o.small.2.2;have h4:=r8.o;unfold Hi;omega
    go_wp2_with (first|(at_builtin;refine ze4 rfl _ _ 35 78 3 24 _ rfl Tryz.underlying35 wq1 (by rfl) (by decide) (by decide) F.B (.slice i6 R.length j9) R.length (lkL R) (by rfl) (World.ownsRow.alloc a7.o.lo _) (.slice (sA D2.heap.size 0) 1 1) 1 [nI (G:Nat),nI (r2:Nat),nI (i:Nat)] (by rfl) (SL.one D2 78 [nI (G:Nat),nI (r2:Nat),nI (i:Nat)] rfl (by simp[Value.oneCell'])) (oH s8.o) (by have:=a7.o.le;simp;omega) ?_;intro v9 w9 k1 k2;have v7:Hi _:=k1;have f9:Hi _:=k2;obtain⟨y6,y8,rfl⟩:=za0 k1;have j8:Hi (w9.heap[F.gf]?=some (.cells (F.row k9 (.slice i6 R.length j9)) 218 (0,0))):=(k2.block F.gf (by simp;omega) (λe=>zf4 a7.o.lo O.o.fB e.symm)).trans (heap_past _ _ _ c1 a7.o.row);clear k1 k2 x6 n8 s2 c1 df;have n8:w9.cell? (aD F.gf 14)=some (.slice i6 R.length j9):=(cell_of_row _ _ 14 _ _ _ j8.o).trans rfl;have df:w9.frozen? (aD F.gf 14)=false:=frozen_of_row _ _ _ _ _ j8.o;have c1:=za2 j8.o)|fail)
    refine⟨⟨j+1,rfl,c5,?_⟩,by show((m:Int)-((j:Int)+1)).toNat<((m:Int)-(j:Int)).toNat;omega⟩;have w8:gA≠F.gf:=by have h1:=m5.o;have h2:=O.o.fB;omega
    have c2:=World.ownsRow.alloc a7.o.lo (Obj.cells #[nI (G:Nat),nI (r2:Nat),nI (i:Nat)] 78);have j4:=heap_past D2 (Obj.cells #[nI (G:Nat),nI (r2:Nat),nI (i:Nat)] 78) gA (za2 g7.o.1) g7.o.1;refine⟨k9,_,r1,R++[(G,r2,i)],(a7.o.step ((Ok.refl D2).alloc _)).link O.o (l:=(G,r2,i)) v7.o f9.o,r4.o,i1.o,i0.o,zk3 ((f9.o.block gA (za2 j4) (λe=>zb6 c2 j4 (by decide) e.symm)).trans j4) w8 _,g7.o.2,by rw[aA,aZ];have:=b6.o.2.2;omega,?_⟩;have f8:=v6.o.ok ((Ok.refl D2).alloc (Obj.cells #[nI (G:Nat),nI (r2:Nat),nI (i:Nat)] 78));exact⟨zc7 (zd6 f8.hist c2 dC f9.o) (zf4 f8.hist O.o.fB) _,zc7 (zd6 f8.loops c2 dC f9.o) (zf4 f8.loops O.o.fB) _⟩
  have t9:¬(j:Int)<(m:Int):=zb2 c5
  have Y:Hi (p.edges G v.2 (CD p.es v.1) vs ls=.inr (a6,R)):=by unfold Hi;rw[<-b6.o.2.1,cP (by rw[i8.o.1,<-HM.o];omega)];rfl
  have v8:Hi (OI W F p f (G+1) wr):=by
   refine⟨_,_,a6,R,b8.o,f7.o,s1.o.next HX.o.1 Y.o,by have h2:=b1.o.1;have h3:=HF.o;omega,?_⟩;rw[<-k7.o.2];obtain⟨g,hg⟩:∃g,f-G=g+1:=⟨f-G-1,by have h2:=b1.o.1;have h3:=HF.o;omega⟩;rw[hg,show f-(G+1)=g by omega]
   conv=>rhs;unfold Pl.verts
   rw[HX.o.1];simp only[Y.o]
  have A0:IntKind.i64.wrap ((G:Int)+1)=((G+1:Nat):Int):=zb3 (oH b1.o.2);go_wp2_with fail;exact⟨⟨G+1,rfl,v8⟩,by show(((N*p.cap+1:Nat):Int)-((G:Int)+1)).toNat<(((N*p.cap+1:Nat):Int)-(G:Int)).toNat;have:=b1.o.1;omega⟩
 have m4:¬(G:Int)<(vs.length:Int):=zb2 f6
 have Y:Hi (p.find f=.inr (vs,ls)):=by
  unfold Hi;rw[<-k7.o.2]
  cases hg:f-G with
  | zero=>rfl
  | succ g =>
   unfold Pl.verts;rw[aS oM]
 have R:Hi _:=Ok.row' HS.o.ok t3.o;obtain⟨d0,d1,d2,d3,d4,d5⟩:=za9 R.o;have A1:=za2 R.o;go_wp2_with fail;(try simp only[Exit.inBlock,Exit.then]);refine bodyPost_ret (results_cell_row rfl _ _ gr 37 #[_,_,_] (0,0) _ rfl (zd9 R.o _ _ _) Tryz.underlying37 rfl wb6) rfl ?_;unfold wm8;rw[Y.o];refine⟨_,_,F.B,rfl,HS.o.vo.far (λb L hl=>zj4 _ (by have h1:=HG.o;have h2:=O.o.f0;have h3:=O.o.fB;omega) _ _ _),zf6 HS.o.lo (by have h1:=HG.o;have h2:=O.o.f0;have h3:=O.o.fB;omega) _ _ _,by have h1:=HK.o.le;have h2:=O.o.f0;have h3:=O.o.fB;omega,(HK.o.step HS.o.ok).set3 HG.o.2.1 _ _ _⟩
end Go.Proofs.YthoegkcpmgalbaaGreatDoor
