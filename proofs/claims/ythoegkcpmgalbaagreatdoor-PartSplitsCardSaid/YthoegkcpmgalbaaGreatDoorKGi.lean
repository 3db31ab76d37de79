import Derived.WalkLawsBesides
import Derived.Test.YthoegkcpmgalbaaGreatDoorKMc
set_option linter.all false
set_option maxRecDepth 100000
namespace Go.Proofs.YthoegkcpmgalbaaGreatDoor
open Go.RowKit Go.Maps
variable{B g k n s:Nat}{e:TypeId}{ls:List Lk}{lv vv:Value}{p:Pl}{t:Tok}{tl:List (Value×Value)}{v:Vx}{vc vm vs:List Vx}{w w' w0:World}{x:Value×Value}{xs:List Value}
def vxL(vs:List Vx)(tl:List (Value×Value)):List Value:=(vs.zip tl).flatMap λx=>[nI x.1.1,.bool x.1.2.1,x.2.1,x.2.2]
def lkL(ls:List Lk):List Value:=ls.flatMap λl=>[nI (l.1:Nat),nI (l.2.1:Nat),nI (l.2.2:Nat)]
def yy4(h:tl.length=vs.length)(v:Vx)(x:Value×Value):vxL (vs++[v]) (tl++[x])=vxL vs tl++[nI v.1,.bool v.2.1,x.1,x.2]:=by unfold vxL;rw[List.zip_append h.symm,fC];simp
def yy5(ls:List Lk)(l:Lk):lkL (ls++[l])=lkL ls++[nI (l.1:Nat),nI (l.2.1:Nat),nI (l.2.2:Nat)]:=by simp[lkL]
def zA2:∀{vs:List Vx} {tl:List (Value×Value)} {k:Nat} {v:Vx} {x:Value×Value},vs[k]?=some v->tl[k]?=some x->(vxL vs tl)[k*4]?=some (nI v.1)/\(vxL vs tl)[k*4+1]?=some (.bool v.2.1)/\(vxL vs tl)[k*4+2]?=some x.1/\(vxL vs tl)[k*4+3]?=some x.2
 | [],tl,k,v,x,h,_=>by simp at h
 | _::_,[],k,v,x,_,h=>by simp at h
 | u::vs,y::tl,k,v,x,h,h'=>by
  have e:vxL (u::vs) (y::tl)=nI u.1::.bool u.2.1::y.1::y.2::vxL vs tl:=by simp[vxL]
  cases k with
  | zero =>
   simp only[bR,cD]at h h';subst h h';rw[e];exact⟨rfl,rfl,rfl,rfl⟩
  | succ k =>
   simp only[bF]at h h';obtain⟨d,G,o,D⟩:=zA2 h h';rw[e,show(k+1)*4=k*4+1+1+1+1 by omega];exact⟨d,G,o,D⟩
def zA3:∀{ls:List Lk} {k:Nat} {l:Lk},ls[k]?=some l->(lkL ls)[k*3]?=some (nI (l.1:Nat))/\(lkL ls)[k*3+1]?=some (nI (l.2.1:Nat))/\(lkL ls)[k*3+2]?=some (nI (l.2.2:Nat))
 | [],k,l,h=>by simp at h
 | u::ls,k,l,h=>by
  have e:lkL (u::ls)=nI (u.1:Nat)::nI (u.2.1:Nat)::nI (u.2.2:Nat)::lkL ls:=by simp[lkL]
  cases k with
  | zero =>
   simp only[bR,cD]at h;subst h;rw[e];exact⟨rfl,rfl,rfl⟩
  | succ k =>
   simp only[bF]at h;obtain⟨d,D,o⟩:=zA3 h;rw[e,show(k+1)*3=k*3+1+1+1 by omega];exact⟨d,D,o⟩
def cnL(N:Nat)(vs:List Vx):List Int:=(List.range N).map λ(n:Nat)=>((many vs (n:Int):Nat):Int)
def zK0{N:Nat}(vs:List Vx)(h:n<N):(cnL N vs)[n]?=some ((many vs (n:Int):Nat):Int):=by unfold cnL;rw[aX,cF h];rfl
def yy6{N:Nat}(vs:List Vx)(t:Tok)(h:k<N):cnL N (vs++[((k:Int),t)])=(cnL N vs).set k (((many vs (k:Int):Nat):Int)+1):=by
 apply eD;intro j;by_cases d:j<N
 ·rw[zK0 _ d,zP5,List.getElem?_set]
  by_cases e:k=j
  ·subst e
   rw[aG rfl,aG rfl,aG (by unfold cnL;rw[aM,fM];exact h)];simp
  rw[aC (by show ¬((k:Int)=(j:Int));omega),aC e,zK0 _ d];rfl
 rw[aS (by unfold cnL;rw[aM,fM];omega),aS (by rw[dN];unfold cnL;rw[aM,fM];omega)]
def txF(vs:List Vx):Value->Option Int
 | .string s=>(vs.findIdx? λv=>decide (FL Lib.itoa v=s.data.toList)).map λk=>(k:Int)
 | _=>Option.none
def zo7{α:Type}{p q:α->Bool}:∀{l:List α},(∀x∈l,p x=q x)->l.findIdx? p=l.findIdx? q
 | [],_=>rfl
 | a::l,h=>by rw[dX,dX,h a aY,zo7 λx d=>h x (bG _ d)]
def wk6(v:Vx):Value:=.string ⟨(FL Lib.itoa v).toArray⟩
def yc2(hv:∀v∈vs,CG v.2)(h:CG v.2):txF vs (wk6 v)=(look vs v).map λk=>(k:Int):=by show((vs.findIdx? λx=>decide (FL Lib.itoa x=(FL Lib.itoa v))).map λk=>(k:Int))=_;unfold look;rw[zo7 (q:=λx=>decide (x=v)) λx d=>?_];exact eZ.2 ⟨λe=>yn6 zz7 (hv x d) h e,λe=>by rw[e]⟩
def yc3(hv:∀v∈vs,CG v.2)(h:CG v.2)(o:look vs v=Option.none):txF (vs++[v]) (wk6 v)=some ((vs.length:Nat):Int):=by
 have d:∀x∈vs++[v],CG x.2:=λx D=>by
  rcases bA.1 D with h1 | h1
  ·exact hv x h1
  rw[aT.1 h1];exact h
 rw[yc2 d h];unfold look at o ⊢;rw[eX,o];simp[dX]
def yy7{u:Value}(d:u≠wk6 v):txF (vs++[v]) u=txF vs u:=by
 unfold txF
 split
 ·rename_i s
  rw[eX]
  have:¬FL Lib.itoa v=s.data.toList:=λe=>d (by
   unfold wk6
   rw[e])
  cases vs.findIdx? λv=>decide (FL Lib.itoa v=s.data.toList) with
  | some k=>rfl
  | none=>simp[dX,this]
 rfl
def yy8(h:(FL Lib.itoa v).length<=100000000):keyOf Tryz.prog 9 (wk6 v)=some (.string (FL Lib.itoa v)):=by
 have e:(⟨(FL Lib.itoa v).toArray⟩:ByteArray).size=(FL Lib.itoa v).length:=by simp[ByteArray.size]
 have:=WideMaps.keyOf_string_mk (P:=Tryz.prog) Tryz.underlying9 (s:=⟨(FL Lib.itoa v).toArray⟩) (by rw[e];unfold maxLen;omega);simpa[wk6] using this
def wm6:Keyed Tryz.prog 9:=string_keyed Tryz.underlying9
def yy9{n:Int}(d:I64 n)(h:TkB 100000 t):(FL Lib.itoa (n,t)).length<=100000000:=by
 cases o:t.1 with
 | true =>
  rw[yg9 o,aA];have:=Lib.itoa_length_le n d.1 d.2;simp;omega
 | false =>
  rw[<-zL7 o];have G:=zL9 (h:=t.2.1) (l:=t.2.2) d h.hi h.li _ (nR_ _);have D:=h.hl;have I:=h.ll;omega
def EH(w:World)(B:Nat)(vv:Value)(vs:List Vx):Prop:=∃tl:List (Value×Value),tl.length=vs.length/\w.ownsRow B 76 4 vv vs.length (vxL vs tl)/\∀(i:Nat) (v:Vx) (x:Value×Value),vs[i]?=some v->tl[i]?=some x->AD w B x.1 x.2 v.2
def EH.ok(h:EH w B vv vs)(d:Ok w w'):EH w' B vv vs:=by obtain⟨tl,G,o,J⟩:=h;exact⟨tl,G,za1 o d,λi v x I D=>(J i v x I D).ok d⟩
def ApT(y x:Value×Value):Prop:=(∀b,y.1.ownBlock=some b->x.1.ownBlock≠some b)/\∀b,y.2.ownBlock=some b->x.2.ownBlock≠some b
def ApL(tl:List (Value×Value)):Prop:=∀(i j:Nat) (y x:Value×Value),i<j->tl[i]?=some y->tl[j]?=some x->ApT y x
def ApL.app(h:ApL tl)(I:∀y∈tl,ApT y x):ApL (tl++[x]):=λi j y z o D d=>by
 have G:=(aE.1 d).1;rw[aA,aZ]at G;rw[aQ oM]at D;by_cases c:j<tl.length
 ·rw[aQ c]at d
  exact h i j y z o D d
 rw[bC oM,show j-tl.length=0 by omega]at d;simp only[bR,cD]at d;subst d;exact I y (mG_ D)
def FE(w:World)(vv:Value)(vs:List Vx)(x:Value×Value):Prop:=∀tl:List (Value×Value),tl.length=vs.length->w.ownsRow 0 76 4 vv vs.length (vxL vs tl)->∀y∈tl,ApT y x
def FE.same(h:FE w vv vs x)(o:∀b,vv.ownBlock=some b->w'.heap[b]?=w.heap[b]?):FE w' vv vs x:=λtl d D=>h tl d (zb4 D λb e=>(o b e).symm)
def FE.nil:FE w vv vs (sZ,sZ):=λtl o D y d=>⟨λb e=>by simp[Value.ownBlock],λb e=>by simp[Value.ownBlock]⟩
def yO4{v:Value}{ys:List Value}(J:w.ownsRow B e s v n xs)(I:w.ownsRow B e s v n ys):xs=ys:=by
 rcases J.2 with ⟨D,R⟩ | ⟨g,cap,L,D,_,X,_,_,_,W⟩
 ·have a:=J.1
  have b:=I.1;rw[R,Nat.zero_mul]at a b;rw[cX.1 a,cX.1 b]
 rcases I.2 with ⟨o,Y⟩ | ⟨Z,K,G,o,_,d,_,_,_,O⟩
 ·rw[D]at o
  cases o
 rw[D]at o
 injection o with a1
 injection a1 with a1
 injection a1 with a1
 subst a1;rw[X]at d
 injection d with d
 injection d with d
 rw[<-W,<-O,d]
def yP3{tl':List (Value×Value)}(O:tl.length=vs.length)(L:tl'.length=vs.length)(h:vxL vs tl=vxL vs tl'):tl=tl':=by
 apply eD;intro i;by_cases c:i<vs.length
 ·obtain⟨v,I⟩:∃v,vs[i]?=some v:=⟨_,gG_ c⟩
  obtain⟨x,D⟩:∃v,tl[i]?=some v:=⟨_,gG_ oM⟩;obtain⟨y,G⟩:∃v,tl'[i]?=some v:=⟨_,gG_ oM⟩;obtain⟨_,_,o,d⟩:=zA2 I D;obtain⟨_,_,J,K⟩:=zA2 I G;rw[h]at o d;rw[D,G,Prod.ext (aI (o.symm.trans J)) (aI (d.symm.trans K))]
 rw[aS oM,aS oM]
def DJ(w:World)(B:Nat)(vv:Value)(vs:List Vx):Prop:=∃tl:List (Value×Value),tl.length=vs.length/\w.ownsRow B 76 4 vv vs.length (vxL vs tl)/\(∀(i:Nat) (v:Vx) (x:Value×Value),vs[i]?=some v->tl[i]?=some x->AD w B x.1 x.2 v.2)/\ApL tl
def DJ.own(h:DJ w B vv vs):EH w B vv vs:=by obtain⟨tl,d,D,o,_⟩:=h;exact⟨tl,d,D,o⟩
def DJ.ok(h:DJ w B vv vs)(d:Ok w w'):DJ w' B vv vs:=by obtain⟨tl,I,D,K,o⟩:=h;exact⟨tl,I,za1 D d,λi v x J G=>(K i v x J G).ok d,o⟩
def DJ.base{B':Nat}(h:DJ w B vv vs)(d:B'<=B):DJ w B' vv vs:=by obtain⟨tl,I,D,K,o⟩:=h;exact⟨tl,I,za7 D d,λi v x J G=>(K i v x J G).base d,o⟩
def DJ.new(h:DJ w B vv vs)(hk:Ok w w'){O:Value}(K:AD w' w.heap.size O lv t):FE w' vv vs (O,lv):=by
 obtain⟨tl,L,W,h3,_⟩:=h;intro d e1 X y hy;have Y:tl=d:=yP3 L e1 (yO4 (za7 (za1 W hk) (zL_ _)) X);subst Y;obtain⟨i,J⟩:=bW.1 hy;have o:i<vs.length:=by rw[<-L];exact(aE.1 J).1
 obtain⟨v,G⟩:∃v,vs[i]?=some v:=⟨_,gG_ o⟩;have R:=h3 i v y G J;exact⟨λb I D=>by have a3:=(R.hist.lt b I).2;have Z:=(K.hist.lt b D).1;omega,λb I D=>by have a3:=(R.loops.lt b I).2;have Z:=(K.loops.lt b D).1;omega⟩
structure FF where
 gf:Nat
 gm:Nat
 gt:Nat
 B:Nat
 N:Nat
 ct:Nat
 a:Nat->Value
def FF.row(F:FF)(vv lv:Value):Array Value:=#[F.a 0,F.a 1,F.a 2,F.a 3,F.a 4,F.a 5,F.a 6,F.a 7,F.a 8,F.a 9,F.a 10,F.a 11,F.a 12,vv,lv,.map (some F.gm),.slice (sA F.gt 0) F.N F.ct]
structure FOk(w0:World)(F:FF)(p:Pl):Prop where
 f0:w0.heap.size<=F.gf
 m0:w0.heap.size<=F.gm
 t0:w0.heap.size<=F.gt
 fB:F.gf<F.B
 mB:F.gm<F.B
 tB:F.gt<F.B
 fm:F.gf≠F.gm
 ft:F.gf≠F.gt
 mt:F.gm≠F.gt
 cap:F.a 9=nI (p.cap:Nat)
 mrg:∃bm om cm,F.a 12=.slice (sA bm om) F.N cm/\bm<w0.heap.size/\∀n,n<F.N->w0.cell? ⟨bm,om+n,none⟩=some (.bool (p.mgd (n:Int)))
 tab:Lib.TabBelow Tryz.prog w0.heap.size w0 "internal/strconv.uint64pow10" .u64 Lib.pow10Tab
 small:F.N<=10000/\p.cap<=10
structure VJ(p:Pl)(vs:List Vx):Prop where
 tok:∀v∈vs,CG v.2
 bnd:∀(i:Nat) (v:Vx),vs[i]?=some v->TkB i v.2
 vi:VI p vs
structure FS(w0:World)(F:FF)(w:World)(vv lv:Value)(vs vm vc:List Vx)(ls:List Lk):Prop where
 ok:Ok w0 w
 le:F.B<=w.heap.size
 row:w.heap[F.gf]?=some (.cells (F.row vv lv) 218 (0,0))
 vo:DJ w F.B vv vs
 lo:w.ownsRow F.B 78 3 lv ls.length (lkL ls)
 mp:CE w 9 F.gm vm.length (txF vm)
 tk:w.ownsRow w0.heap.size 3 1 (.slice (sA F.gt 0) F.N F.ct) F.N (ilL (cnL F.N vc))
def FS.step{F:FF}(h:FS w0 F w vv lv vs vm vc ls)(d:Ok w w'):FS w0 F w' vv lv vs vm vc ls :=
 ⟨h.ok.step d,aH h.le d.le,Ok.row' d h.row,h.vo.ok d,za1 h.lo d,h.mp.ok d,za1 h.tk d⟩
def zf4{v:Value}(h:w.ownsRow B e s v n xs)(d:g<B):v.ownBlock≠some g:=λe=>by have:=(h.lt g e).1;omega
def EH.far(h:EH w B vv vs)(J:∀b,B<=b->b<w.heap.size->w'.heap[b]?=w.heap[b]?):EH w' B vv vs:=by obtain⟨tl,K,I,G⟩:=h;exact⟨tl,K,zb4 I λb d=>J b (I.lt b d).1 (I.lt b d).2,λi v x D o=>⟨zb4 (G i v x D o).hist λb d=>J b ((G i v x D o).hist.lt b d).1 ((G i v x D o).hist.lt b d).2,zb4 (G i v x D o).loops λb d=>J b ((G i v x D o).loops.lt b d).1 ((G i v x D o).loops.lt b d).2⟩⟩
def DJ.far(h:DJ w B vv vs)(J:∀b,B<=b->b<w.heap.size->w'.heap[b]?=w.heap[b]?):DJ w' B vv vs:=by obtain⟨tl,L,I,G,K⟩:=h;exact⟨tl,L,zb4 I λb d=>J b (I.lt b d).1 (I.lt b d).2,λi v x D o=>⟨zb4 (G i v x D o).hist λb d=>J b ((G i v x D o).hist.lt b d).1 ((G i v x D o).hist.lt b d).2,zb4 (G i v x D o).loops λb d=>J b ((G i v x D o).loops.lt b d).1 ((G i v x D o).loops.lt b d).2⟩,K⟩
def yz0(l:List Int)(k:Nat)(x:Int):ilL (l.set k x)=(ilL l).set k (nI x):=by unfold ilL;rw[iR]
def FS.count{F:FF}(h:FS w0 F w vv lv vs vm vc ls)(d:FOk w0 F p)(G:k<F.N)(t:Tok) :
  FS w0 F (w.setCell (aD F.gt k) (nI (((many vc (k:Int):Nat):Int)+1))) vv lv vs vm (vc++[((k:Int),t)]) ls:=by
 have o:∀b,b≠F.gt->(w.setCell (aD F.gt k) (nI (((many vc (k:Int):Nat):Int)+1))).heap[b]?=w.heap[b]?:=λb D=>Below.heap_setCell _ _ _ _ D;refine⟨h.ok.set d.t0 _,by have:=h.le;simpa using this,(o _ d.ft).trans h.row,h.vo.far λb D _=>o b (oH d.tB),zc7 h.lo (zf4 h.lo d.tB) _,h.mp.set d.mt _,?_⟩;rw[yy6 _ _ G,yz0];exact zA1 h.tk _ oM
def FS.put{F:FF}(h:FS w0 F w vv lv vs vm vc ls)(D:FOk w0 F p)(J:CE w' 9 F.gm (vm.length+1) (txF (vm++[v])))(G:w.grownBy w' (some F.gm)) :
  FS w0 F w' vv lv vs (vm++[v]) vc ls:=by
 have d:∀b,b<w.heap.size->b≠F.gm->w'.heap[b]?=w.heap[b]?:=λb I o=>G.block b I λe=>o (aI e);refine⟨h.ok.grown G (λb e=>by rw[<-aI e];exact D.m0),aH h.le G.size,(d _ (za2 h.row) D.fm).trans h.row,h.vo.far λb o I=>d b I (oH D.mB),zb4 h.lo λb o=>d b (h.lo.lt b o).2 (by have L:=(h.lo.lt b o).1;have K:=D.mB;omega),?_,zb4 h.tk λb o=>d b (h.tk.lt b o).2 (by cases o;exact λe=>D.mt e.symm)⟩;rw[aA];exact J
def yo2(F:FF)(vv lv d:Value):(F.row vv lv).setIfInBounds 13 d=F.row d lv:=rfl
def yc4(F:FF)(vv lv d:Value):(F.row vv lv).setIfInBounds 14 d=F.row vv d:=rfl
def FS.push{F:FF}{o:Value}(h:FS w0 F w vv lv vs vm vc ls)(G:FOk w0 F p){v:Vx}{x:Value×Value}(J:tl.length=vs.length)(D:w.ownsRow F.B 76 4 vv vs.length (vxL vs tl))(O:∀(i:Nat) (v:Vx) (x:Value×Value),vs[i]?=some v->tl[i]?=some x->AD w F.B x.1 x.2 v.2)(hx:AD w F.B x.1 x.2 v.2)(X:ApL tl)(W:∀y∈tl,ApT y x)
  (hv:w'.ownsRow F.B 76 4 o (vs.length+1) (vxL vs tl++[nI v.1,.bool v.2.1,x.1,x.2])) (L:w.grownBy w' vv.ownBlock):FS w0 F (w'.setCell (aD F.gf 13) o) o lv (vs++[v]) vm vc ls:=by
 have R:∀b,b<F.B->w'.heap[b]?=w.heap[b]?:=λb Z=>L.block b (lL_ Z h.le) λe=>zf4 D Z e.symm;have hs:∀b,b≠F.gf->(w'.setCell (aD F.gf 13) o).heap[b]?=w'.heap[b]?:=λb R=>Below.heap_setCell _ _ _ _ R;have Y:∀(y:Value×Value) (u:Tok),AD w F.B y.1 y.2 u->AD (w'.setCell (aD F.gf 13) o) F.B y.1 y.2 u:=λy u I=>⟨zc7 (zd6 I.hist D dC L) (zf4 I.hist G.fB) _,zc7 (zd6 I.loops D dC L) (zf4 I.loops G.fB) _⟩;refine⟨(h.ok.grown L (λb e=>by have h1:=(D.lt b e).1;have h2:=G.f0;have d:=G.fB;omega)).set G.f0 _,by have h1:=h.le;have h2:=L.size;simp;omega,?_,?_,zc7 (zd6 h.lo D (by decide) L) (zf4 h.lo G.fB) _,(h.mp.kept L (λe=>zf4 D G.mB e.symm)).set (λe=>G.fm e.symm) _,zc7 (zb4 h.tk λb e=>by cases e;exact R _ G.tB) (λe=>G.ft (aI e).symm) _⟩
 ·rw[<-yo2 F vv lv o]
  exact heap_setCell_same _ _ _ _ _ _ ((R _ G.fB).trans h.row)
 refine⟨tl++[x],by rw[aA,aA,J];rfl,?_,?_,X.app W⟩
 ·rw[yy4 J,aA,aZ]
  exact zc7 hv (zf4 hv G.fB) _
 intro i u y K I;by_cases c:i<vs.length
 ·rw[aQ c]at K
  rw[aQ oM]at I;exact Y y _ (O i u y K I)
 rw[bC oM]at K;rw[bC oM,J]at I;by_cases d:i=vs.length
 ·subst d
  simp only[eJ,bR,cD]at K I;subst K I;exact Y x _ hx
 rw[aS (by simp;omega)]at K;cases K
def FS.cells{F:FF}(h:FS w0 F w vv lv vs vm vc ls)(I:FOk w0 F p) :
  w.cell? (aD F.gf 9)=some (nI (p.cap:Nat))/\w.cell? (aD F.gf 12)=some (F.a 12)/\w.cell? (aD F.gf 13)=some vv/\w.cell? (aD F.gf 14)=some lv/\w.cell? (aD F.gf 15)=some (.map (some F.gm))/\w.cell? (aD F.gf 16)=some (.slice (sA F.gt 0) F.N F.ct)/\(∀o,w.frozen? (aD F.gf o)=false)/\F.gf<w.heap.size/\F.gt<w.heap.size/\(∀o,w.frozen? (aD F.gt o)=false):=by
 refine⟨(cell_of_row _ _ 9 _ _ _ h.row).trans (by rw[<-I.cap];rfl),(cell_of_row _ _ 12 _ _ _ h.row).trans rfl,(cell_of_row _ _ 13 _ _ _ h.row).trans rfl,(cell_of_row _ _ 14 _ _ _ h.row).trans rfl,(cell_of_row _ _ 15 _ _ _ h.row).trans rfl,(cell_of_row _ _ 16 _ _ _ h.row).trans rfl,λo=>frozen_of_row _ _ _ _ _ h.row,za2 h.row,(h.tk.lt _ rfl).2,λo=>?_⟩;rcases h.tk.2 with ⟨D,_⟩ | ⟨J,cap,G,D,_,d,_⟩
 ·cases D
 injection D with e5 _ _
 injection e5 with e5
 injection e5 with e5
 rw[<-e5]at d;exact frozen_of_row _ _ _ _ _ d
def FS.cnt{F:FF}(h:FS w0 F w vv lv vs vm vc ls)(o:k<F.N):w.cell? (aD F.gt k)=some (nI (many vc (k:Int):Nat)):=by have d:=h.tk.cells (g:=F.gt) rfl k _ (zk6 (zK0 vc o));rw[zb7,aL]at d;exact d
structure VK(F:FF)(w:World)(vv:Value)(w':World)(vv':Value):Prop where
 size:w.heap.size<=w'.heap.size
 far:∀(b:Nat) (o:Obj),w.heap[b]?=some o->b≠F.gf->b≠F.gm->b≠F.gt->vv.ownBlock≠some b->w'.heap[b]?=some o
 at_:∀b,vv'.ownBlock=some b->vv.ownBlock=some b\/w.heap.size<=b
def VK.trans{F:FF}{L K O:World}{X G R:Value}(h:VK F L X K G)(k:VK F K G O R):VK F L X O R:=by
 refine⟨Nat.le_trans h.size k.size,λb o d J I W D=>k.far b o (h.far b o d J I W D) J I W (λe=>?_),λb e=>?_⟩
 ·rcases h.at_ b e with h5 | h5
  ·exact D h5
  have:=za2 d;omega
 rcases k.at_ b e with h5 | h5
 ·exact h.at_ b h5
 exact .inr (aH h.size h5)
def VK.ok{F:FF}{v:Value}(h:Ok w w'):VK F w v w' v:=⟨h.le,λb o d _ _ _ _=>Ok.row' h d,λb e=>.inl e⟩
def wk7(w0:World)(F:FF)(p:Pl)(lv:Value)(vs:List Vx)(ls:List Lk)(k:Nat)(t:Tok)(w:World)(vv:Value)(e:Ending)(w':World):Prop :=
 match p.vert vs (k:Int) t with
 | none=>e=.panicked [{ v:=.iface 158 (nI (k:Nat)),recovered:=false }]/\Ok w0 w'
 | some r=>e=.returned (nI (r.2:Nat))/\∃vv',FS w0 F w' vv' lv r.1 r.1 r.1 ls/\VJ p r.1/\VK F w vv w' vv'
def wm7:(Tryz.prog.info? 76).map (λi=>(i.zero,i.size,i.bytes))=some (some (.agg #[nI 0,.bool false,sZ,sZ]),4,64):=by kernel_rfl
def VJ.add(h:VJ p vs){n:Int}(D:CG t)(o:TkB vs.length t)(I:VI p (vs++[(n,t)])):VJ p (vs++[(n,t)]):=by
 refine⟨λv d=>?_,λi v d=>?_,I⟩
 ·rcases bA.1 d with e | e
  ·exact h.tok v e
  rw[aT.1 e];exact D
 by_cases c:i<vs.length
 ·rw[aQ c]at d
  exact h.bnd i v d
 obtain⟨G,e⟩:=aE.1 d;rw[aA,aZ]at G;have:i=vs.length:=oM;subst this;simp at d;rw[<-d];exact o
def zn6{ops:Array Oper}{o:Oper}{a:Act}{K:Act->World->Prop}{Q:Exit->Act->World->Prop}{E:Prop}(a1:o.guard=none)(s x:Operand)(Y L:TypeId)(D d:Nat)(z:Value)
  (ho:o.op=.call { callee:=.builtin .append,args:=#[s,x],argTypes:=#[Y,Y] })
  (J:Tryz.prog.underlying Y=some (.slice L)) (W:(Tryz.prog.info? L).map (λi=>(i.zero,i.size,i.bytes))=some (some z,D,d)) (a3:z.cells.size=D) (X:0<D) (a4:0<d)
  (base:Nat) (O:Value) (k:Nat) (ys:List Value) (hs:a.eval s=O) (R:w.ownsRow base L D O k ys) (v:Value) (n:Nat) (xs:List Value) (hx:a.eval x=v) (hT:SL w D v n xs) (hn:0<n)
  (hb:(k+n)*d<=140737488355328) (G:base<=w.heap.size)
  (h:∀I w',w'.ownsRow base L D I (k+n) (ys++xs)->w.grownBy w' O.ownBlock->(I.ownBlock=O.ownBlock\/I.ownBlock=some w.heap.size)->K (a.put o.dst I) w') :
  if Region.wanted o (yielded ops a.tmps)=true then Oper.wp Tryz.prog o a w K Q else E:=by
 have hw:Region.wanted o (yielded ops a.tmps)=true:=by simp[Region.wanted,a1]
 rw[aG hw];obtain⟨i,hi,hz,a2,Z⟩:=zg6 W;have h1:=hT.2.1;have h0:=hT.1;obtain⟨b,of,cap,rfl,hl,hc⟩:=hT.at X hn;obtain⟨I,w',r1,r2,r3,_,r4⟩:=run_append_own_at w base Y o.type L i z D d J hi hz a2 Z a3 X O k ys R ⟨b,of,none⟩ n cap xs h0 (by intro j u hj;rw[zb7];exact hc j u hj) h1 (by have:=dT (k+n) a4;unfold maxLen;omega) hb G;unfold Oper.wp execOp;simp only[ho,resolve,invoke,builtin,Sem.run_bind,Sem.run_pure,Result.andThen_ok,fT,dK,eK,hs,hx,r1];exact h I w' r2 r3 r4
def zb6{t:TypeId}{v:Value}{c:Array Value}{f:Nat×Nat}(h:w.ownsRow B e s v n xs)(o:w.heap[g]?=some (.cells c t f))(G:t≠e):v.ownBlock≠some g:=λD=>by
 obtain⟨J,I,d⟩:=zf9 h g D;rw[o]at d
 injection d with d
 injection d with _ k2
 exact G k2
def zk3{b:Nat}{x:Option Obj}(h:w.heap[b]?=x){p:Addr}(d:b≠p.block)(v:Value):(w.setCell p v).heap[b]?=x:=(Below.heap_setCell _ _ _ _ d).trans h
def AD.off{x y:Value}(h:AD w B x y t){p:Addr}(d:p.block<B)(u:Value):AD (w.setCell p u) B x y t:=⟨zc7 h.hist (zf4 h.hist d) _,zc7 h.loops (zf4 h.loops d) _⟩
def AD.kept{x y:Value}(h:AD w B x y t)(o:w.grownBy w' (some g))(D:g<B):AD w' B x y t:=⟨zb4 h.hist λb d=>o.block b (h.hist.lt b d).2 λe=>zf4 h.hist D (by rw[d,e]),zb4 h.loops λb d=>o.block b (h.loops.lt b d).2 λe=>zf4 h.loops D (by rw[d,e])⟩
set_option maxHeartbeats 8000000 in
def zx3{w0 w:World}{F:FF}{p:Pl}{vv lv:Value}{vs:List Vx}{ls:List Lk}(h:FS w0 F w vv lv vs vs vs ls)(hF:FOk w0 F p)(hJ:VJ p vs){k:Nat}(hk:k<F.N)(hd:(k:Int)=0\/∃e∈p.es,e.to'=(k:Int))(t:Tok)(hv g3:Value)(X:AD w F.B hv g3 t)(G:CG t)(I:TkB vs.length t)(o:vs.length<=100000)(K:FE w vv vs (hv,g3)) :
  Calls Tryz.prog 106 #[pA F.gf 0,nI (k:Nat),.agg #[.bool t.1,hv,g3]] w λe w'=>wk7 w0 F p lv vs ls k t w vv e w':=by
 have HS:=hid h;have L:=hid hF;have HJ:=hid hJ;have HK:=hid hk;have HD:=hid hd;have HT:=hid X;have HO:Hi (CG t/\TkB vs.length t/\vs.length<=100000):=⟨G,I,o⟩;obtain⟨bm,om,cm,J,d,W⟩:=hF.mrg;obtain⟨c9,a1,a6,a2,a5,a3,a7,a8,a4,R⟩:=h.cells hF;rw[J]at a1;obtain⟨m,hm⟩:=qq (p.mgd (k:Int));have HM:Hi (m=p.mgd (k:Int)):=hm;have mc:w.cell? ⟨bm,om+k,none⟩=some (.bool m):=by rw[hm];exact h.ok.cell (p:=⟨bm,om+k,none⟩) d (W k hk)
 have l1:bm<w.heap.size:=lL_ d h.ok.le;obtain⟨tl,Z,D,Y⟩:=h.vo;obtain⟨O,vc,rfl⟩:=za0 D;have h7:=hid D.lt;have g7:Hi _:=K;clear Z D Y;obtain⟨ho,hc,rfl⟩:=za0 X.hist;obtain⟨lo,lc,rfl⟩:=za0 X.loops;obtain⟨q,Z⟩:=qq (t.2.1.length);obtain⟨n,Y⟩:=qq (t.2.2.length);obtain⟨tm,D⟩:=qq (t.1);have HQ:Hi (q=t.2.1.length/\n=t.2.2.length/\tm=t.1):=⟨Z,Y,D⟩;rw[<-Z,<-Y]at HT g7;rw[<-Z,<-Y,<-D];have l9:(k:Int)<(F.N:Int):=za5 hk;clear h hF hJ hk hd X G I o K J d W hm Z Y D;go_enter Tryz.func106,Tryz.ntmps106;have HI:Hi (I64 (k:Int)):=by have d:=HK.o;have h2:=L.o.small.1;unfold Hi I64;omega
 have i6:Hi (∃(D:Tok) (tb:Bool) (xo:Option Addr) (xn xc:Nat) (yo:Option Addr) (yn yc:Nat),D=p.tok (k:Int) t/\(if m=true then tb=true/\xo=none/\xn=0/\xc=0/\yo=none/\yn=0/\yc=0 else tb=tm/\xo=ho/\xn=q/\xc=hc/\yo=lo/\yn=n/\yc=lc)/\CG D/\TkB vs.length D/\tb=D.1/\AD w F.B (.slice xo xn xc) (.slice yo yn yc) D/\FE w (.slice O vs.length vc) vs (.slice xo xn xc,.slice yo yn yc)):=by
  cases m with
  | true=>exact⟨EG,true,none,0,0,none,0,0,by unfold Pl.tok;rw[aG HM.o.symm],by simp,λ_=>rfl,⟨by simp[EG],by simp[EG],by simp[EG],by simp[EG]⟩,rfl,⟨World.ownsRow_nil _ _ _ _,World.ownsRow_nil _ _ _ _⟩,FE.nil⟩
  | false=>exact⟨t,tm,ho,q,hc,lo,n,lc,by unfold Pl.tok;rw[aC (by rw[<-HM.o];decide)],by simp,HO.o.1,HO.o.2.1,HQ.o.2.2,HT.o,g7.o⟩
 have h8:Hi (∀D:Tok,TkB vs.length D->TkB 100000 D):=λD h=>⟨Nat.le_trans h.hl HO.o.2.2,aH h.ll HO.o.2.2,h.hi,h.li⟩
 have l2:Hi (∀(D:Tok) (tb:Bool) (hA lA:Value),tb=D.1->AD w F.B hA lA D->TkB vs.length D->Calls Tryz.prog 146 #[nI (k:Nat),.agg #[.bool tb,hA,lA]] (w.alloc (.cells #[.bool tb,hA,lA] 74)) λe w'=>∃s:ByteArray,e=.returned (.string s)/\wk6 ((k:Int),D)=.string s/\Ok (w.alloc (.cells #[.bool tb,hA,lA] 74)) w'):=λD tb hA lA e1 e2 e3=>by rw[e1];have o:=(Ok.refl w).alloc (.cells #[.bool D.1,hA,lA] 74);exact(zW4 (k:Int) hA lA D _ HI.o (e2.ok o).is (h8.o _ e3) (λw' G=>L.o.tab w' (Below.trans (HS.o.ok.step o) (G.mono (HS.o.ok.step o).le)))).mono λe w' ⟨d,h2⟩=>⟨_,d,rfl,h2⟩
 cases m
 all_goals (
  obtain⟨D,tb,xo,xn,xc,yo,yn,yc,k1,k2,k3,k4,k5,k6,k7⟩:=i6.o;obtain⟨rfl,rfl,rfl,rfl,rfl,rfl,rfl⟩:=k2;have H4:Hi _:=And.intro k1 (And.intro k3 (And.intro k4 (And.intro k5 k6)));have j4:Hi (FE w (.slice O vs.length vc) vs _):=k7;clear k1 k3 k4 k5 k6 k7 i6 g7;go_wp2_with fail;refine(l2.o D _ _ _ H4.o.2.2.2.1 H4.o.2.2.2.2 H4.o.2.2.1).mono ?_;rintro e w1 ⟨s,rfl,hs,g8⟩;have c3:Hi (Ok w w1):=((Ok.refl w).alloc _).step g8;have c6:Hi _:=Ok.row' g8 (za3 _ _);have h9:Hi _:=H4.o.2.2.2.2.ok c3.o;have b9:Hi _:=hs;have g6:Hi _:=H4.o.1;have b6:Hi _:=And.intro H4.o.2.1 H4.o.2.2.1;have i1:Hi _:=H4.o.2.2.2.1;clear hs g8 H4;obtain⟨gb,g9⟩:=qq (w.heap.size);rw[<-g9]at c6 ⊢;have l5:Hi (gb=w.heap.size):=g9;have b7:Hi _:=HS.o.step c3.o;clear g9 c9 a1 a6 a2 a5 a3 a7 a8 a4 R mc l1;obtain⟨c9,a1,a6,a2,a5,a3,a7,a8,a4,R⟩:=b7.o.cells L.o;obtain⟨b0,b1,b2,b3,b4,b5⟩:=za9 c6.o;have G:=za2 c6.o;have f4:Hi (keyOf Tryz.prog 9 (.string s)=some (.string (FL Lib.itoa ((k:Int),D)))):=by rw[<-b9.o];exact yy8 (yy9 HI.o (h8.o _ b6.o.2))
  have g1:Hi ((Instr.lookup 64 (.map (some F.gm)) (.string s) true).run Tryz.prog w1=.ok (.tuple #[nI ((txF vs (.string s)).getD 0),.bool (txF vs (.string s)).isSome]) w1):=b7.o.mp.look_ok wm6 Tryz.underlying64 f4.o;have j6:Hi (txF vs (.string s)=(look vs ((k:Int),D)).map λj=>(j:Int)):=by rw[<-b9.o];exact yc2 HJ.o.tok b6.o.1
  cases hl:look vs ((k:Int),D) with
  | some j =>
   have f9:(Instr.lookup 64 (.map (some F.gm)) (.string s) true).run Tryz.prog w1=.ok (.tuple #[nI (j:Nat),.bool true]) w1:=by have d:=g1.o;rw[j6.o,hl]at d;exact d
   have HV:Hi (p.vert vs (k:Int) t=some (vs,j)):=by unfold Hi Pl.vert;rw[<-g6.o,hl]
   clear hl;go_wp2_with fail;go_ret;unfold wk7;rw[HV.o];exact⟨rfl,_,b7.o,HJ.o,VK.ok c3.o⟩
  | none =>
   have f9:(Instr.lookup 64 (.map (some F.gm)) (.string s) true).run Tryz.prog w1=.ok (.tuple #[nI 0,.bool false]) w1:=by have d:=g1.o;rw[j6.o,hl]at d;exact d
   have HL:=hid hl;have tc:=b7.o.cnt HK.o;obtain⟨c,o⟩:=qq (many vs (k:Int));have HC:Hi (c=many vs (k:Int)):=o;rw[<-o]at tc;clear hl o
   go_upto_region 7 with (fail)
   go_quiet (fail);obtain⟨Y,hY⟩:=qq (w1.drewN nq);have X:Hi (Ok w1 Y):=by rw[hY];exact(Ok.refl w1).draws _
   rw[<-hY];clear hY f9 g1 c9 a1 a6 a2 a5 a3 a7 a8 a4 R b0 b1 b2 b3 b4 b5 G tc;have d1:Hi _:=b7.o.step X.o;have j2:Hi _:=h9.o.ok X.o;have j3:Hi _:=Ok.row' X.o c6.o;have d0:=hid (c3.o.step X.o);clear b7 h9 c6 c3 X;obtain⟨c9,a1,a6,a2,a5,a3,a7,a8,a4,R⟩:=d1.o.cells L.o;have tc:=d1.o.cnt HK.o;rw[<-HC.o]at tc;have k8:=R k;by_cases c7:c=p.cap
   ·have hb:((c:Int)==(p.cap:Int))=true:=by rw[c7];simp
    have HV:Hi (p.vert vs (k:Int) t=Option.none):=by unfold Hi Pl.vert;rw[<-g6.o,HL.o];show(if many vs (k:Int)=p.cap then Option.none else _)=_;rw[<-HC.o,aG c7]
    clear c7;go_wp2_with fail;refine⟨rfl,?_⟩;unfold wk7;rw[HV.o];exact⟨rfl,d1.o.ok⟩
   have hb:((c:Int)==(p.cap:Int))=false:=by rw[aF];omega
   have l0:=hid c7;have kw:IntKind.i64.wrap ((c:Int)+1)=(c:Int)+1:=by have d:=HJ.o.vi.cnt (k:Int);have h2:=HC.o;have h3:=L.o.small.2;rw[IntKind.wrap_i64];omega
   clear c7
   go_upto_region 10 with (fail)
   obtain⟨Z,hZ⟩:=qq (Y.setCell ⟨F.gt,k,none⟩ (nI ((c:Int)+1)));rw[<-hZ];have d5:Hi _:=d1.o.count L.o HK.o D;rw[<-HC.o,<-hZ]at d5;have HG:Hi (gb≠F.gt/\gb≠F.gf/\gb≠F.gm/\F.B<=gb):=by have d:=l5.o;have h2:=HS.o.le;have h3:=L.o.fB;have h4:=L.o.tB;have h5:=L.o.mB;unfold Hi;omega
   have d9:Hi _:=zk3 j3.o (p:=⟨F.gt,k,none⟩) HG.o.1 (nI ((c:Int)+1));have f8:Hi _:=j2.o.off (p:=⟨F.gt,k,none⟩) L.o.tB (nI ((c:Int)+1));rw[<-hZ]at d9 f8;have c5:Hi (VK F w (.slice O vs.length vc) Z (.slice O vs.length vc)):=by unfold Hi;rw[hZ];exact⟨by have:=d0.o.le;simpa using this,λb o h0 _ _ h3 _=>zk3 (Ok.row' d0.o h0) (p:=⟨F.gt,k,none⟩) h3 _,λb e=>.inl e⟩
   have i8:Hi (FE Z (.slice O vs.length vc) vs _):=FE.same j4.o λb e=>by have d:=h7.o b e;have h2:=L.o.tB;rw[hZ];exact(Below.heap_setCell _ _ _ _ (by show b≠F.gt;omega)).trans (Below.block d0.o b d.2)
   have i0:=hid c5.o.size;clear hZ c9 a1 a6 a2 a5 a3 a7 a8 a4 R tc k8 kw hb d1 j2 j3;have g2:Hi _:=d5.o.step (Below.drew (Ok.refl Z));obtain⟨J,j9,i7,W⟩:=g2.o.mp.put (f':=txF (vs++[((k:Int),D)])) wm6 Tryz.underlying64 f4.o (y:=(vs.length:Nat)) oM (oH HO.o.2.2) (by have:=HO.o.2.2;unfold maxLen;omega) (by rw[<-b9.o];exact yc3 HJ.o.tok b6.o.1 HL.o) (by intro u I;rw[<-b9.o]at I;exact yy7 I);have g4:Hi _:=g2.o.put L.o i7 W;have i2:Hi _:=(W.block gb (za2 d9.o) (λe=>HG.o.2.2.1 (aI e))).trans d9.o;have i5:Hi _:=(f8.o.ok (Below.drew (Ok.refl Z))).kept W L.o.mB
   have j1:Hi (FE J (.slice O vs.length vc) vs _):=FE.same i8.o λb e=>by have d:=h7.o b e;have h2:=L.o.mB;exact W.block b (lL_ d.2 i0.o) (λI=>by have h4:=aI I;omega)
   have m0:=hid W.size;have l4:Hi (VK F w (.slice O vs.length vc) J (.slice O vs.length vc)):=⟨Nat.le_trans c5.o.size W.size,λb o h0 d h2 h3 h4=>(W.block b (za2 (c5.o.far b o h0 d h2 h3 h4)) (λe=>h2 (aI e))).trans (c5.o.far b o h0 d h2 h3 h4),λb e=>.inl e⟩;clear i7 W c5;obtain⟨c9,a1,a6,a2,a5,a3,a7,a8,a4,R⟩:=d5.o.cells L.o;obtain⟨_,_,I,d2,d3,d6,c0,f2,j7,_⟩:=g4.o.cells L.o
   go_region_held3 (λw'=>w'.cell? (aD F.gf 13)=some (.slice O vs.length vc)/\w'.cell? (aD F.gf 15)=some (.map (some F.gm))) (go_keep) (fail)
   clear c9 a1 a6 a2 a5 a3 a7 a8 a4 R j9 d5 g2 d9 f8
   go_upto_region 11 with (fail)
   obtain⟨xb,x1,x2,x3,y1,y2,y3,g5,j5,l3,k0⟩:∃(xb:Bool) (x1:Option Addr) (x2 x3:Nat) (y1:Option Addr) (y2 y3:Nat),Hi (J.heap[gb]?=some (.cells #[.bool xb,.slice x1 x2 x3,.slice y1 y2 y3] 74 (0,0)))/\Hi (xb=D.1)/\Hi (AD J F.B (.slice x1 x2 x3) (.slice y1 y2 y3) D)/\Hi (FE J (.slice O vs.length vc) vs (.slice x1 x2 x3,.slice y1 y2 y3)):=⟨_,_,_,_,_,_,_,i2,i1,i5,j1⟩;clear i2 i5 i1 j1 i8 i0 j4 h7;obtain⟨b0,b1,b2,b3,b4,b5⟩:=za9 g5.o;have G:=za2 g5.o;obtain⟨tl,f7,h6,K,i4⟩:=g4.o.vo;have i3:Hi (ApL tl/\∀y∈tl,ApT y (.slice x1 x2 x3,.slice y1 y2 y3)):=⟨i4,k0.o tl f7 (za7 h6 (zL_ _))⟩;have f5:Hi (tl.length=vs.length/\J.ownsRow F.B 76 4 (.slice O vs.length vc) vs.length (vxL vs tl)/\∀(i:Nat) (v:Vx) (x:Value×Value),vs[i]?=some v->tl[i]?=some x->AD J F.B x.1 x.2 v.2):=⟨f7,h6,K⟩;clear f7 h6 K i4 k0;have S0:(J.drew.cell? (aD F.gf 13)=some (.slice O vs.length vc)/\J.drew.cell? (aD gb 0)=some (.bool xb)/\J.drew.cell? (aD gb 1)=some (.slice x1 x2 x3)/\J.drew.cell? (aD gb 2)=some (.slice y1 y2 y3)/\F.gf<J.drew.heap.size/\gb<J.drew.heap.size):=⟨I,b0,b1,b2,f2,G⟩;have S1:Ok J J.drew:=Below.drew (Ok.refl _);clear b0 b1 b2 b3 b4 b5 G I d2 d3 d6 c0 f2 j7;refine zd5 (λY=>(Y.cell? (aD F.gf 13)=some (.slice O vs.length vc)/\Y.cell? (aD gb 0)=some (.bool xb)/\Y.cell? (aD gb 1)=some (.slice x1 x2 x3)/\Y.cell? (aD gb 2)=some (.slice y1 y2 y3)/\F.gf<Y.heap.size/\gb<Y.heap.size)) 12 kR ?_;refine tK 0 (pA F.gf 0) S0 ?_;simp only[pu];refine tK 1 (pA F.gf 0) S0 ?_;simp only[pu];refine tK 2 (pA F.gf 0) S0 ?_;simp only[pu];refine tK 3 (pA F.gf 13) S0 ?_;simp only[pu];refine tL 4 (.slice O vs.length vc) S0 ?_ ?_
   ·intro w' s0;obtain⟨q1,q2,q3,q4,q5,q6⟩:=s0;go_simp;try with_reducible rfl
   simp only[pu];refine tK 5 (nI (k:Nat)) S0 ?_;simp only[pu];refine tL 6 (.agg #[.bool xb,.slice x1 x2 x3,.slice y1 y2 y3]) S0 ?_ ?_
   ·intro w' s0;obtain⟨q1,q2,q3,q4,q5,q6⟩:=s0;go_simp;try with_reducible rfl
   simp only[pu];refine tK 7 (.agg #[nI (k:Nat),.bool xb,.slice x1 x2 x3,.slice y1 y2 y3]) S0 ?_;simp only[pu];refine zb0 (i:=8) kR rfl (λK hK=>?_);go_simp;obtain⟨W4,d7⟩:=qq ((J.alloc (Obj.cells #[nI (k:Nat),.bool xb,.slice x1 x2 x3,.slice y1 y2 y3] 76)).drew);have b8:Hi (Ok J W4):=by rw[d7];exact Below.drew ((Ok.refl J).alloc _)
   have k9:Hi (SL W4 4 (.slice (sA J.heap.size 0) 1 1) 1 [nI (k:Nat),Value.bool xb,Value.slice x1 x2 x3,Value.slice y1 y2 y3]):=by rw[d7];exact SL.one J 76 [nI (k:Nat),Value.bool xb,Value.slice x1 x2 x3,Value.slice y1 y2 y3] rfl (by simp[Value.oneCell'])
   rw[<-d7];clear d7;have c2:Hi _:=g4.o.step b8.o;have c4:Hi _:=za1 f5.o.2.1 b8.o;have c1:Hi _:=Ok.row' b8.o g5.o;obtain⟨_,_,I,d2,d3,d6,c0,c8,i9,_⟩:=c2.o.cells L.o;obtain⟨b0,b1,b2,b3,b4,b5⟩:=za9 c1.o;have G:=za2 c1.o;refine hK.out _ _ (λ_=>⟨I,b0,b1,b2,c8,G⟩) ?_;clear hK K;refine zb0 (i:=9) kR rfl (λK hK=>?_);refine zn6 rfl _ _ 34 76 4 64 _ rfl Tryz.underlying34 wm7 (by rfl) dC dC F.B (.slice O vs.length vc) vs.length (vxL vs tl) (by rfl) c4.o (.slice (sA J.heap.size 0) 1 1) 1 [nI (k:Nat),Value.bool xb,Value.slice x1 x2 x3,Value.slice y1 y2 y3] (by rfl) k9.o dC (oH HO.o.2.2) c2.o.le ?_;intro v9 w9 k1 k2 k3;have l6:Hi _:=k3;clear k3;have j8:Hi _:=k1;have d4:Hi _:=k2;obtain⟨g0,f6,rfl⟩:=za0 k1;have f0:Hi (w9.heap[F.gf]?=some (.cells (F.row (.slice O vs.length vc) lv) 218 (0,0))):=(k2.block F.gf c8 (λe=>zf4 c4.o L.o.fB e.symm)).trans c2.o.row;have f3:Hi _:=(k2.block gb G (λe=>zb6 c4.o c1.o dC e.symm)).trans c1.o;clear k1 k2 I d2 d3 d6 c0 c8 i9 b0 b1 b2 b3 b4 b5 G;have I:w9.cell? (aD F.gf 13)=some (.slice O vs.length vc):=(cell_of_row _ _ 13 _ _ _ f0.o).trans rfl;have c0:w9.frozen? (aD F.gf 13)=false:=frozen_of_row _ _ _ _ _ f0.o;have a9:=za2 f0.o;obtain⟨b0,b1,b2,b3,b4,b5⟩:=za9 f3.o;have G:=za2 f3.o;refine hK.out _ _ (λ_=>⟨I,b0,b1,b2,a9,G⟩) ?_;clear hK K;simp only[pu];refine zb0 (i:=10) kR rfl (λK hK=>?_);go_simp;refine hK.out _ _ (λ_=>⟨I,b0,b1,b2,a9,G⟩) ?_;clear hK K;refine zb0 (i:=11) kR rfl (λK hK=>?_);go_simp;refine hK.out _ _ (λ_=>⟨I,b0,b1,b2,a9,G⟩) ?_;clear hK K;refine zb0 (i:=12) kR rfl (λK hK=>?_);go_simp;refine hK.out _ _ (λh=>absurd rfl h) ?_;clear hK K;refine zd4 kR ?_ _;have d8:Hi _:=c2.o.push L.o (v:=((k:Int),D)) (x:=(.slice x1 x2 x3,.slice y1 y2 y3)) f5.o.1 c4.o (λi v x d h2=>(f5.o.2.2 i v x d h2).ok b8.o) (l3.o.ok b8.o) i3.o.1 i3.o.2 (by have d:=j8.o;rw[j5.o]at d;exact d) d4.o
   have j0:Hi (VK F w (.slice O vs.length vc) (w9.setCell (aD F.gf 13) (.slice g0 (vs.length+1) f6)) (.slice g0 (vs.length+1) f6)):=by
    have f1:VK F w (.slice O vs.length vc) W4 (.slice O vs.length vc):=l4.o.trans (VK.ok b8.o);refine⟨by have d:=f1.size;have h2:=d4.o.size;simp;omega,λb o h0 d h2 h3 h4=>zk3 ((d4.o.block b (za2 (f1.far b o h0 d h2 h3 h4)) (λe=>h4 e.symm)).trans (f1.far b o h0 d h2 h3 h4)) (p:=⟨F.gf,13,none⟩) d _,λb e=>?_⟩;rcases l6.o with h5 | h5
    ·exact .inl (h5 ▸ e)
    rw[e]at h5;exact .inr (oK (aI h5) f1.size)
   obtain⟨V,hV⟩:=qq (w9.setCell ⟨F.gf,13,none⟩ (.slice g0 (vs.length+1) f6));rw[<-hV]at d8 j0;rw[<-hV];clear hV I c0 a9 b0 b1 b2 b3 b4 b5 G c2 c4 c1 f0 f3 j8 d4
   have f9:(Instr.lookup 64 (.map (some F.gm)) (.string s) false).run Tryz.prog V=.ok (nI (vs.length:Nat)) V:=by have d:=d8.o.mp.look wm6 Tryz.underlying64 f4.o;rw[<-b9.o,yc3 HJ.o.tok b6.o.1 HL.o,b9.o]at d;exact d
   obtain⟨_,_,I,d2,d3,d6,c0,l7,l8,_⟩:=d8.o.cells L.o;have HV:Hi (p.vert vs (k:Int) t=some (vs++[((k:Int),D)],vs.length)):=by unfold Hi Pl.vert;rw[<-g6.o,HL.o];show(if many vs (k:Int)=p.cap then Option.none else _)=_;rw[<-HC.o,aC l0.o]
   go_wp2_with fail;go_ret;unfold wk7;rw[HV.o]
   exact⟨rfl,_,d8.o,HJ.o.add b6.o.1 b6.o.2 (zo5 HJ.o.vi HD.o HV.o).1,j0.o⟩)
end Go.Proofs.YthoegkcpmgalbaaGreatDoor
