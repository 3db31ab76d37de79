import Derived.WalkLawsBesides
import Derived.Deep.OwnRows
import Derived.Test.YtpongdpnbclchaaGreatDoorKMc
set_option linter.all false
set_option maxRecDepth 100000
namespace Go.Proofs.YtpongdpnbclchaaGreatDoor
variable{B M N g k n:Nat}{ls:List Lk}{lv vv x y:Value}{p:Pl}{t:Tok}{v:Vx}{vc vm vs:List Vx}{w w' w0:World}{xs:List Value}
section
open Go.RowKit Go.Maps
def vxL(vs:List Vx)(tl:List (Value×Value)):List Value:=(vs.zip tl).flatMap λx=>[nI x.1.1,.bool x.1.2.1,x.2.1,x.2.2]
def lkL(ls:List Lk):List Value:=ls.flatMap λl=>[nI (l.1:Nat),nI (l.2.1:Nat),nI (l.2.2:Nat)]
theorem yy4{tl:List (Value×Value)}(h:tl.length=vs.length)(v:Vx)(x:Value×Value):vxL (vs++[v]) (tl++[x])=vxL vs tl++[nI v.1,.bool v.2.1,x.1,x.2]:=by unfold vxL;rw[List.zip_append h.symm,List.flatMap_append];simp
theorem yy5(ls:List Lk)(l:Lk):lkL (ls++[l])=lkL ls++[nI (l.1:Nat),nI (l.2.1:Nat),nI (l.2.2:Nat)]:=by simp[lkL]
theorem zA2:∀{vs:List Vx} {tl:List (Value×Value)} {k:Nat} {v:Vx} {x:Value×Value},vs[k]?=some v->tl[k]?=some x->(vxL vs tl)[k*4]?=some (nI v.1)/\(vxL vs tl)[k*4+1]?=some (.bool v.2.1)/\(vxL vs tl)[k*4+2]?=some x.1/\(vxL vs tl)[k*4+3]?=some x.2
 | [],tl,k,v,x,h,_=>by simp at h
 | _::_,[],k,v,x,_,h=>by simp at h
 | u::vs,y::tl,k,v,x,h,h'=>by
  have e:vxL (u::vs) (y::tl)=nI u.1::.bool u.2.1::y.1::y.2::vxL vs tl:=by simp[vxL]
  cases k with
  | zero =>
   simp only[List.getElem?_cons_zero,Option.some.injEq]at h h';subst h h';rw[e];exact⟨rfl,rfl,rfl,rfl⟩
  | succ k =>
   simp only[List.getElem?_cons_succ]at h h';obtain⟨h1,h2,h3,h4⟩:=zA2 h h';rw[e,show(k+1)*4=k*4+1+1+1+1 by omega];exact⟨h1,h2,h3,h4⟩
theorem zA3:∀{ls:List Lk} {k:Nat} {l:Lk},ls[k]?=some l->(lkL ls)[k*3]?=some (nI (l.1:Nat))/\(lkL ls)[k*3+1]?=some (nI (l.2.1:Nat))/\(lkL ls)[k*3+2]?=some (nI (l.2.2:Nat))
 | [],k,l,h=>by simp at h
 | u::ls,k,l,h=>by
  have e:lkL (u::ls)=nI (u.1:Nat)::nI (u.2.1:Nat)::nI (u.2.2:Nat)::lkL ls:=by simp[lkL]
  cases k with
  | zero =>
   simp only[List.getElem?_cons_zero,Option.some.injEq]at h;subst h;rw[e];exact⟨rfl,rfl,rfl⟩
  | succ k =>
   simp only[List.getElem?_cons_succ]at h;obtain⟨h1,h2,h3⟩:=zA3 h;rw[e,show(k+1)*3=k*3+1+1+1 by omega];exact⟨h1,h2,h3⟩
def cnL(N:Nat)(vs:List Vx):List Int:=(List.range N).map λ(n:Nat)=>((many vs (n:Int):Nat):Int)
theorem zK0(vs:List Vx)(h:n<N):(cnL N vs)[n]?=some ((many vs (n:Int):Nat):Int):=by unfold cnL;rw[List.getElem?_map,List.getElem?_range h];rfl
theorem yy6(vs:List Vx)(t:Tok)(h:k<N):cnL N (vs++[((k:Int),t)])=(cnL N vs).set k (((many vs (k:Int):Nat):Int)+1):=by
 apply List.ext_getElem?;intro j;by_cases hj:j<N
 ·rw[zK0 _ hj,zP5,List.getElem?_set]
  by_cases e:k=j
  ·subst e
   rw[if_pos rfl,if_pos rfl,if_pos (by unfold cnL;rw[List.length_map,List.length_range];exact h)];simp
  rw[if_neg (by show ¬((k:Int)=(j:Int));omega),if_neg e,zK0 _ hj];rfl
 rw[List.getElem?_eq_none (by unfold cnL;rw[List.length_map,List.length_range];omega),List.getElem?_eq_none (by rw[List.length_set];unfold cnL;rw[List.length_map,List.length_range];omega)]
def txF(vs:List Vx):Value->Option Int
 | .string s=>(vs.findIdx? λv=>decide (FC Lib.itoa v=s.data.toList)).map λk=>(k:Int)
 | _=>Option.none
theorem zo7{α:Type}{p q:α->Bool}:∀{l:List α},(∀x∈l,p x=q x)->l.findIdx? p=l.findIdx? q
 | [],_=>rfl
 | a::l,h=>by rw[List.findIdx?_cons,List.findIdx?_cons,h a List.mem_cons_self,zo7 λx hx=>h x (List.mem_cons_of_mem _ hx)]
def wk1(v:Vx):Value:=.string ⟨(FC Lib.itoa v).toArray⟩
theorem yc2(hv:∀v∈vs,EI v.2)(h:EI v.2):txF vs (wk1 v)=(look vs v).map λk=>(k:Int):=by show((vs.findIdx? λx=>decide (FC Lib.itoa x=(FC Lib.itoa v))).map λk=>(k:Int))=_;unfold look;rw[zo7 (q:=λx=>decide (x=v)) λx hx=>?_];exact decide_eq_decide.2 ⟨λe=>yn6 zz7 (hv x hx) h e,λe=>by rw[e]⟩
theorem yc3(hv:∀v∈vs,EI v.2)(h:EI v.2)(hn:look vs v=Option.none):txF (vs++[v]) (wk1 v)=some ((vs.length:Nat):Int):=by
 have hv':∀x∈vs++[v],EI x.2:=λx hx=>by
  rcases List.mem_append.1 hx with h1 | h1
  ·exact hv x h1
  rw[List.mem_singleton.1 h1];exact h
 rw[yc2 hv' h];unfold look at hn ⊢;rw[List.findIdx?_append,hn];simp[List.findIdx?_cons]
theorem yy7{u:Value}(hu:u≠wk1 v):txF (vs++[v]) u=txF vs u:=by
 unfold txF
 split
 ·rename_i s
  rw[List.findIdx?_append]
  have:¬FC Lib.itoa v=s.data.toList:=λe=>hu (by
   unfold wk1
   rw[e])
  cases vs.findIdx? λv=>decide (FC Lib.itoa v=s.data.toList) with
  | some k=>rfl
  | none=>simp[List.findIdx?_cons,this]
 rfl
theorem yy8(h:(FC Lib.itoa v).length<=100000000):keyOf Tryz.prog 9 (wk1 v)=some (.string (FC Lib.itoa v)):=by
 have e:(⟨(FC Lib.itoa v).toArray⟩:ByteArray).size=(FC Lib.itoa v).length:=by simp[ByteArray.size]
 have:=WideMaps.keyOf_string_mk (P:=Tryz.prog) Tryz.underlying9 (s:=⟨(FC Lib.itoa v).toArray⟩) (by rw[e];unfold maxLen;omega);simpa[wk1] using this
theorem wp5:Keyed Tryz.prog 9:=string_keyed Tryz.underlying9
theorem yy9{n:Int}(hn:I64 n)(h:TkB 100000 t):(FC Lib.itoa (n,t)).length<=100000000:=by
 cases hm:t.1 with
 | true =>
  rw[yg9 hm,List.length_append];have:=Lib.itoa_length_le n hn.1 hn.2;simp;omega
 | false =>
  rw[<-zL7 hm];have h1:=zL9 (h:=t.2.1) (l:=t.2.2) hn h.hi h.li _ (nR_ _);have h2:=h.hl;have h3:=h.ll;omega
def DV(w:World)(B:Nat)(vv:Value)(vs:List Vx):Prop:=∃tl:List (Value×Value),tl.length=vs.length/\w.ownsRow B 222 4 vv vs.length (vxL vs tl)/\∀(i:Nat) (v:Vx) (x:Value×Value),vs[i]?=some v->tl[i]?=some x->AA w B x.1 x.2 v.2
theorem DV.ok(h:DV w B vv vs)(hk:Ok w w'):DV w' B vv vs:=by obtain⟨tl,h1,h2,h3⟩:=h;exact⟨tl,h1,za1 h2 hk,λi v x hv hx=>(h3 i v x hv hx).ok hk⟩
structure EY where
 gf:Nat
 gm:Nat
 gt:Nat
 B:Nat
 N:Nat
 ct:Nat
 a:Nat->Value
def EY.row(F:EY)(vv lv:Value):Array Value:=#[F.a 0,F.a 1,F.a 2,F.a 3,F.a 4,F.a 5,F.a 6,F.a 7,F.a 8,F.a 9,F.a 10,F.a 11,F.a 12,vv,lv,.map (some F.gm),.slice (sA F.gt 0) F.N F.ct]
structure FOk(w0:World)(F:EY)(p:Pl):Prop where
 f0:w0.heap.size<=F.gf
 m0:w0.heap.size<=F.gm
 t0:w0.heap.size<=F.gt
 fB:F.gf<F.B
 mB:F.gm<F.B
 tB:F.gt<F.B
 fm:F.gf≠F.gm
 ft:F.gf≠F.gt
 mt:F.gm≠F.gt
 cap:F.a 9=nI (p.cap:Nat)
 mrg:∃bm om cm,F.a 12=.slice (sA bm om) F.N cm/\bm<w0.heap.size/\∀n,n<F.N->w0.cell? ⟨bm,om+n,none⟩=some (.bool (p.mgd (n:Int)))
 tab:Lib.TabBelow Tryz.prog w0.heap.size w0 "internal/strconv.uint64pow10" .u64 Lib.pow10Tab
 small:F.N<=10000/\p.cap<=10
structure VJ(p:Pl)(vs:List Vx):Prop where
 tok:∀v∈vs,EI v.2
 bnd:∀(i:Nat) (v:Vx),vs[i]?=some v->TkB i v.2
 vi:VI p vs
structure FS(w0:World)(F:EY)(w:World)(vv lv:Value)(vs vm vc:List Vx)(ls:List Lk):Prop where
 ok:Ok w0 w
 le:F.B<=w.heap.size
 row:w.heap[F.gf]?=some (.cells (F.row vv lv) 219 (0,0))
 vo:DV w F.B vv vs
 lo:w.ownsRow F.B 144 3 lv ls.length (lkL ls)
 mp:CH w 9 F.gm vm.length (txF vm)
 tk:w.ownsRow w0.heap.size 3 1 (.slice (sA F.gt 0) F.N F.ct) F.N (ilL (cnL F.N vc))
theorem FS.step{F:EY}(h:FS w0 F w vv lv vs vm vc ls)(hk:Ok w w'):FS w0 F w' vv lv vs vm vc ls :=
 ⟨h.ok.step hk,Nat.le_trans h.le hk.le,Ok.row' hk h.row,h.vo.ok hk,za1 h.lo hk,h.mp.ok hk,za1 h.tk hk⟩
theorem zf4{s:Nat}{e:TypeId}{v:Value}(h:w.ownsRow B e s v n xs)(hg:g<B):v.ownBlock≠some g:=λe=>by have:=(h.lt g e).1;omega
theorem DV.far(h:DV w B vv vs)(hk:∀b,B<=b->b<w.heap.size->w'.heap[b]?=w.heap[b]?):DV w' B vv vs:=by obtain⟨tl,h1,h2,h3⟩:=h;exact⟨tl,h1,zb4 h2 λb hb=>hk b (h2.lt b hb).1 (h2.lt b hb).2,λi v x hv hx=>⟨zb4 (h3 i v x hv hx).hist λb hb=>hk b ((h3 i v x hv hx).hist.lt b hb).1 ((h3 i v x hv hx).hist.lt b hb).2,zb4 (h3 i v x hv hx).loops λb hb=>hk b ((h3 i v x hv hx).loops.lt b hb).1 ((h3 i v x hv hx).loops.lt b hb).2⟩⟩
theorem yz0(l:List Int)(k:Nat)(x:Int):ilL (l.set k x)=(ilL l).set k (nI x):=by unfold ilL;rw[List.map_set]
theorem FS.count{F:EY}(h:FS w0 F w vv lv vs vm vc ls)(hF:FOk w0 F p)(hk:k<F.N)(t:Tok) :
  FS w0 F (w.setCell (aD F.gt k) (nI (((many vc (k:Int):Nat):Int)+1))) vv lv vs vm (vc++[((k:Int),t)]) ls:=by
 have hne:∀b,b≠F.gt->(w.setCell (aD F.gt k) (nI (((many vc (k:Int):Nat):Int)+1))).heap[b]?=w.heap[b]?:=λb hb=>Below.heap_setCell _ _ _ _ hb;refine⟨h.ok.set hF.t0 _,by have:=h.le;simpa using this,(hne _ hF.ft).trans h.row,h.vo.far λb hb _=>hne b (by have:=hF.tB;omega),zc7 h.lo (zf4 h.lo hF.tB) _,h.mp.set hF.mt _,?_⟩;rw[yy6 _ _ hk,yz0];exact zA1 h.tk _ oM
theorem FS.put{F:EY}(h:FS w0 F w vv lv vs vm vc ls)(hF:FOk w0 F p)(hm:CH w' 9 F.gm (vm.length+1) (txF (vm++[v])))(hg:w.grownBy w' (some F.gm)) :
  FS w0 F w' vv lv vs (vm++[v]) vc ls:=by
 have hne:∀b,b<w.heap.size->b≠F.gm->w'.heap[b]?=w.heap[b]?:=λb hl hb=>hg.block b hl λe=>hb (Option.some.inj e);refine⟨h.ok.grown hg (λb e=>by rw[<-Option.some.inj e];exact hF.m0),Nat.le_trans h.le hg.size,(hne _ (za2 h.row) hF.fm).trans h.row,h.vo.far λb hb hl=>hne b hl (by have:=hF.mB;omega),zb4 h.lo λb hb=>hne b (h.lo.lt b hb).2 (by have h1:=(h.lo.lt b hb).1;have h2:=hF.mB;omega),?_,zb4 h.tk λb hb=>hne b (h.tk.lt b hb).2 (by cases hb;exact λe=>hF.mt e.symm)⟩;rw[List.length_append];exact hm
theorem yo2(F:EY)(vv lv v':Value):(F.row vv lv).setIfInBounds 13 v'=F.row v' lv:=rfl
theorem yc4(F:EY)(vv lv v':Value):(F.row vv lv).setIfInBounds 14 v'=F.row vv v':=rfl
theorem FS.push{F:EY}{vv':Value}(h:FS w0 F w vv lv vs vm vc ls)(hF:FOk w0 F p){v:Vx}{x:Value×Value}{tl:List (Value×Value)}(htl:tl.length=vs.length)(hvo:w.ownsRow F.B 222 4 vv vs.length (vxL vs tl))(hold:∀(i:Nat) (v:Vx) (x:Value×Value),vs[i]?=some v->tl[i]?=some x->AA w F.B x.1 x.2 v.2)(hx:AA w F.B x.1 x.2 v.2)
  (hv:w'.ownsRow F.B 222 4 vv' (vs.length+1) (vxL vs tl++[nI v.1,.bool v.2.1,x.1,x.2])) (hg:w.grownBy w' vv.ownBlock):FS w0 F (w'.setCell (aD F.gf 13) vv') vv' lv (vs++[v]) vm vc ls:=by
 have hb:∀b,b<F.B->w'.heap[b]?=w.heap[b]?:=λb hl=>hg.block b (lL_ hl h.le) λe=>zf4 hvo hl e.symm;have hs:∀b,b≠F.gf->(w'.setCell (aD F.gf 13) vv').heap[b]?=w'.heap[b]?:=λb hb=>Below.heap_setCell _ _ _ _ hb;have hc:∀(y:Value×Value) (u:Tok),AA w F.B y.1 y.2 u->AA (w'.setCell (aD F.gf 13) vv') F.B y.1 y.2 u:=λy u hy=>⟨zc7 (zd6 hy.hist hvo dC hg) (zf4 hy.hist hF.fB) _,zc7 (zd6 hy.loops hvo dC hg) (zf4 hy.loops hF.fB) _⟩;refine⟨(h.ok.grown hg (λb e=>by have h1:=(hvo.lt b e).1;have h2:=hF.f0;have h3:=hF.fB;omega)).set hF.f0 _,by have h1:=h.le;have h2:=hg.size;simp;omega,?_,?_,zc7 (zd6 h.lo hvo (by decide) hg) (zf4 h.lo hF.fB) _,(h.mp.kept hg (λe=>zf4 hvo hF.mB e.symm)).set (λe=>hF.fm e.symm) _,zc7 (zb4 h.tk λb e=>by cases e;exact hb _ hF.tB) (λe=>hF.ft (Option.some.inj e).symm) _⟩
 ·rw[<-yo2 F vv lv vv']
  exact heap_setCell_same _ _ _ _ _ _ ((hb _ hF.fB).trans h.row)
 refine⟨tl++[x],by rw[List.length_append,List.length_append,htl];rfl,?_,?_⟩
 ·rw[yy4 htl,List.length_append,List.length_singleton]
  exact zc7 hv (zf4 hv hF.fB) _
 intro i u y hu hy;by_cases c:i<vs.length
 ·rw[List.getElem?_append_left c]at hu
  rw[List.getElem?_append_left (by omega)]at hy;exact hc y _ (hold i u y hu hy)
 rw[List.getElem?_append_right (by omega)]at hu;rw[List.getElem?_append_right (by omega),htl]at hy;by_cases d:i=vs.length
 ·subst d
  simp only[Nat.sub_self,List.getElem?_cons_zero,Option.some.injEq]at hu hy;subst hu hy;exact hc x _ hx
 rw[List.getElem?_eq_none (by simp;omega)]at hu;cases hu
theorem FS.cells{F:EY}(h:FS w0 F w vv lv vs vm vc ls)(hF:FOk w0 F p) :
  w.cell? (aD F.gf 9)=some (nI (p.cap:Nat))/\w.cell? (aD F.gf 12)=some (F.a 12)/\w.cell? (aD F.gf 13)=some vv/\w.cell? (aD F.gf 14)=some lv/\w.cell? (aD F.gf 15)=some (.map (some F.gm))/\w.cell? (aD F.gf 16)=some (.slice (sA F.gt 0) F.N F.ct)/\(∀o,w.frozen? (aD F.gf o)=false)/\F.gf<w.heap.size/\F.gt<w.heap.size/\(∀o,w.frozen? (aD F.gt o)=false):=by
 refine⟨(cell_of_row _ _ 9 _ _ _ h.row).trans (by rw[<-hF.cap];rfl),(cell_of_row _ _ 12 _ _ _ h.row).trans rfl,(cell_of_row _ _ 13 _ _ _ h.row).trans rfl,(cell_of_row _ _ 14 _ _ _ h.row).trans rfl,(cell_of_row _ _ 15 _ _ _ h.row).trans rfl,(cell_of_row _ _ 16 _ _ _ h.row).trans rfl,λo=>frozen_of_row _ _ _ _ _ h.row,za2 h.row,(h.tk.lt _ rfl).2,λo=>?_⟩;rcases h.tk.2 with ⟨e1,_⟩ | ⟨g',cap,cur,e1,_,hgg,_⟩
 ·cases e1
 injection e1 with e5 _ _
 injection e5 with e5
 injection e5 with e5
 rw[<-e5]at hgg;exact frozen_of_row _ _ _ _ _ hgg
theorem FS.cnt{F:EY}(h:FS w0 F w vv lv vs vm vc ls)(hk:k<F.N):w.cell? (aD F.gt k)=some (nI (many vc (k:Int):Nat)):=by have h1:=h.tk.cells (g:=F.gt) rfl k _ (zk6 (zK0 vc hk));rw[zb7,Nat.zero_add]at h1;exact h1
end
section
open Go.RowKit Go.Maps
structure VK(F:EY)(w:World)(vv:Value)(w':World)(vv':Value):Prop where
 size:w.heap.size<=w'.heap.size
 far:∀(b:Nat) (o:Obj),w.heap[b]?=some o->b≠F.gf->b≠F.gm->b≠F.gt->vv.ownBlock≠some b->w'.heap[b]?=some o
 at_:∀b,vv'.ownBlock=some b->vv.ownBlock=some b\/w.heap.size<=b
theorem VK.trans{F:EY}{w1 w2 w3:World}{v1 v2 v3:Value}(h:VK F w1 v1 w2 v2)(k:VK F w2 v2 w3 v3):VK F w1 v1 w3 v3:=by
 refine⟨Nat.le_trans h.size k.size,λb o h0 h1 h2 h3 h4=>k.far b o (h.far b o h0 h1 h2 h3 h4) h1 h2 h3 (λe=>?_),λb e=>?_⟩
 ·rcases h.at_ b e with h5 | h5
  ·exact h4 h5
  have:=za2 h0;omega
 rcases k.at_ b e with h5 | h5
 ·exact h.at_ b h5
 exact .inr (Nat.le_trans h.size h5)
theorem VK.ok{F:EY}{v:Value}(h:Ok w w'):VK F w v w' v:=⟨h.le,λb o h0 _ _ _ _=>Ok.row' h h0,λb e=>.inl e⟩
def wk2(w0:World)(F:EY)(p:Pl)(lv:Value)(vs:List Vx)(ls:List Lk)(k:Nat)(t:Tok)(w:World)(vv:Value)(e:Ending)(w':World):Prop :=
 match p.vert vs (k:Int) t with
 | none=>e=.panicked [{ v:=.iface 200 (nI (k:Nat)),recovered:=false }]/\Ok w0 w'
 | some r=>e=.returned (nI (r.2:Nat))/\∃vv',FS w0 F w' vv' lv r.1 r.1 r.1 ls/\VJ p r.1/\VK F w vv w' vv'
theorem wp6:(Tryz.prog.info? 222).map (λi=>(i.zero,i.size,i.bytes))=some (some (.agg #[nI 0,.bool false,sZ,sZ]),4,64):=by kernel_rfl
theorem VJ.add(h:VJ p vs){n:Int}(h1:EI t)(h2:TkB vs.length t)(h3:VI p (vs++[(n,t)])):VJ p (vs++[(n,t)]):=by
 refine⟨λv hv=>?_,λi v hv=>?_,h3⟩
 ·rcases List.mem_append.1 hv with e | e
  ·exact h.tok v e
  rw[List.mem_singleton.1 e];exact h1
 by_cases c:i<vs.length
 ·rw[List.getElem?_append_left c]at hv
  exact h.bnd i v hv
 obtain⟨hi,e⟩:=List.getElem?_eq_some_iff.1 hv;rw[List.length_append,List.length_singleton]at hi;have:i=vs.length:=oM;subst this;simp at hv;rw[<-hv];exact h2
theorem zn6{ops:Array Oper}{o:Oper}{a:Act}{K:Act->World->Prop}{Q:Exit->Act->World->Prop}{E:Prop}(hgd:o.guard=none)(s x:Operand)(lT eT:TypeId)(sz bts:Nat)(z:Value)
  (ho:o.op=.call { callee:=.builtin .append,args:=#[s,x],argTypes:=#[lT,lT] })
  (hund:Tryz.prog.underlying lT=some (.slice eT)) (hinf:(Tryz.prog.info? eT).map (λi=>(i.zero,i.size,i.bytes))=some (some z,sz,bts)) (hzc:z.cells.size=sz) (hsz:0<sz) (hbt:0<bts)
  (base:Nat) (sv:Value) (k:Nat) (ys:List Value) (hs:a.eval s=sv) (hown:w.ownsRow base eT sz sv k ys) (v:Value) (n:Nat) (xs:List Value) (hx:a.eval x=v) (hT:SL w sz v n xs) (hn:0<n)
  (hb:(k+n)*bts<=140737488355328) (hbase:base<=w.heap.size)
  (h:∀v' w',w'.ownsRow base eT sz v' (k+n) (ys++xs)->w.grownBy w' sv.ownBlock->(v'.ownBlock=sv.ownBlock\/v'.ownBlock=some w.heap.size)->K (a.put o.dst v') w') :
  if Region.wanted o (yielded ops a.tmps)=true then Oper.wp Tryz.prog o a w K Q else E:=by
 have hw:Region.wanted o (yielded ops a.tmps)=true:=by simp[Region.wanted,hgd]
 rw[if_pos hw];obtain⟨i,hi,hz,hsi,hby⟩:=zg6 hinf;have h1:=hT.2.1;have h0:=hT.1;obtain⟨b,of,cap,rfl,hl,hc⟩:=hT.at hsz hn;obtain⟨v',w',r1,r2,r3,_,r4⟩:=run_append_own_at w base lT o.type eT i z sz bts hund hi hz hsi hby hzc hsz sv k ys hown ⟨b,of,none⟩ n cap xs h0 (by intro j u hj;rw[zb7];exact hc j u hj) h1 (by have:=Nat.le_mul_of_pos_right (k+n) hbt;unfold maxLen;omega) hb hbase;unfold Oper.wp execOp;simp only[ho,resolve,invoke,builtin,Sem.run_bind,Sem.run_pure,Result.andThen_ok,List.map_toArray,List.map_cons,List.map_nil,hs,hx,r1];exact h v' w' r2 r3 r4
theorem zb6{s:Nat}{e t:TypeId}{v:Value}{c:Array Value}{f:Nat×Nat}(h:w.ownsRow B e s v n xs)(hg:w.heap[g]?=some (.cells c t f))(ht:t≠e):v.ownBlock≠some g:=λe1=>by
 obtain⟨c1,f1,k1⟩:=zf9 h g e1;rw[hg]at k1
 injection k1 with k1
 injection k1 with _ k2
 exact ht k2
theorem zk3{b:Nat}{x:Option Obj}(h:w.heap[b]?=x){p:Addr}(hne:b≠p.block)(v:Value):(w.setCell p v).heap[b]?=x:=(Below.heap_setCell _ _ _ _ hne).trans h
theorem AA.off(h:AA w B x y t){p:Addr}(hp:p.block<B)(u:Value):AA (w.setCell p u) B x y t:=⟨zc7 h.hist (zf4 h.hist hp) _,zc7 h.loops (zf4 h.loops hp) _⟩
theorem AA.kept(h:AA w B x y t)(hg:w.grownBy w' (some g))(hl:g<B):AA w' B x y t:=⟨zb4 h.hist λb hb=>hg.block b (h.hist.lt b hb).2 λe=>zf4 h.hist hl (by rw[hb,e]),zb4 h.loops λb hb=>hg.block b (h.loops.lt b hb).2 λe=>zf4 h.loops hl (by rw[hb,e])⟩
set_option maxHeartbeats 8000000 in
theorem zx3{w0 w:World}{F:EY}{p:Pl}{vv lv:Value}{vs:List Vx}{ls:List Lk}(h:FS w0 F w vv lv vs vs vs ls)(hF:FOk w0 F p)(hJ:VJ p vs){k:Nat}(hk:k<F.N)(hd:(k:Int)=0\/∃e∈p.es,e.to'=(k:Int))(t:Tok)(hv lvv:Value)(ht:AA w F.B hv lvv t)(hto:EI t)(htb:TkB vs.length t)(hlen:vs.length<=100000) :
  Calls Tryz.prog 135 #[pA F.gf 0,nI (k:Nat),.agg #[.bool t.1,hv,lvv]] w λe w'=>wk2 w0 F p lv vs ls k t w vv e w':=by
 have HS:=hid h;have HF:=hid hF;have HJ:=hid hJ;have HK:=hid hk;have HD:=hid hd;have HT:=hid ht;have HO:Hi (EI t/\TkB vs.length t/\vs.length<=100000):=⟨hto,htb,hlen⟩;obtain⟨bm,om,cm,e12,lbm0,hmc⟩:=hF.mrg;obtain⟨c9,c12,c13,c14,c15,c16,cfz,lgf,lgt,tfz⟩:=h.cells hF;rw[e12]at c12;obtain⟨m,hm⟩:=qq (p.mgd (k:Int));have HM:Hi (m=p.mgd (k:Int)):=hm;have mc:w.cell? ⟨bm,om+k,none⟩=some (.bool m):=by rw[hm];exact h.ok.cell (p:=⟨bm,om+k,none⟩) lbm0 (hmc k hk)
 have lbm:bm<w.heap.size:=lL_ lbm0 h.ok.le;obtain⟨tl,z1,z2,z3⟩:=h.vo;obtain⟨vo,vc,rfl⟩:=za0 z2;clear z1 z2 z3;obtain⟨ho,hc,rfl⟩:=za0 ht.hist;obtain⟨lo,lc,rfl⟩:=za0 ht.loops;obtain⟨q,hq⟩:=qq (t.2.1.length);obtain⟨n,hn⟩:=qq (t.2.2.length);obtain⟨tm,htm⟩:=qq (t.1);have HQ:Hi (q=t.2.1.length/\n=t.2.2.length/\tm=t.1):=⟨hq,hn,htm⟩;rw[<-hq,<-hn]at HT;rw[<-hq,<-hn,<-htm];have hlt:(k:Int)<(F.N:Int):=za5 hk;clear h hF hJ hk hd ht hto htb hlen e12 lbm0 hmc hm hq hn htm;go_enter Tryz.func135,Tryz.ntmps135;have HI:Hi (I64 (k:Int)):=by have h1:=HK.o;have h2:=HF.o.small.1;unfold Hi I64;omega
 have HTX:Hi (∃(t':Tok) (tb:Bool) (xo:Option Addr) (xn xc:Nat) (yo:Option Addr) (yn yc:Nat),t'=p.tok (k:Int) t/\(if m=true then tb=true/\xo=none/\xn=0/\xc=0/\yo=none/\yn=0/\yc=0 else tb=tm/\xo=ho/\xn=q/\xc=hc/\yo=lo/\yn=n/\yc=lc)/\EI t'/\TkB vs.length t'/\tb=t'.1/\AA w F.B (.slice xo xn xc) (.slice yo yn yc) t'):=by
  cases m with
  | true=>exact⟨EX,true,none,0,0,none,0,0,by unfold Pl.tok;rw[if_pos HM.o.symm],by simp,λ_=>rfl,⟨by simp[EX],by simp[EX],by simp[EX],by simp[EX]⟩,rfl,⟨World.ownsRow_nil _ _ _ _,World.ownsRow_nil _ _ _ _⟩⟩
  | false=>exact⟨t,tm,ho,q,hc,lo,n,lc,by unfold Pl.tok;rw[if_neg (by rw[<-HM.o];decide)],by simp,HO.o.1,HO.o.2.1,HQ.o.2.2,HT.o⟩
 have HUP:Hi (∀t':Tok,TkB vs.length t'->TkB 100000 t'):=λt' h=>⟨Nat.le_trans h.hl HO.o.2.2,Nat.le_trans h.ll HO.o.2.2,h.hi,h.li⟩
 have HTT:Hi (∀(t':Tok) (tb:Bool) (hA lA:Value),tb=t'.1->AA w F.B hA lA t'->TkB vs.length t'->Calls Tryz.prog 149 #[nI (k:Nat),.agg #[.bool tb,hA,lA]] (w.alloc (.cells #[.bool tb,hA,lA] 28)) λe w'=>∃s:ByteArray,e=.returned (.string s)/\wk1 ((k:Int),t')=.string s/\Ok (w.alloc (.cells #[.bool tb,hA,lA] 28)) w'):=λt' tb hA lA e1 e2 e3=>by rw[e1];have hA1:=(Ok.refl w).alloc (.cells #[.bool t'.1,hA,lA] 28);exact(zW4 (k:Int) hA lA t' _ HI.o (e2.ok hA1).is (HUP.o _ e3) (λw' hw'=>HF.o.tab w' (Below.trans (HS.o.ok.step hA1) (hw'.mono (HS.o.ok.step hA1).le)))).mono λe w' ⟨h1,h2⟩=>⟨_,h1,rfl,h2⟩
 cases m
 all_goals (
  obtain⟨t',tb,xo,xn,xc,yo,yn,yc,k1,k2,k3,k4,k5,k6⟩:=HTX.o;obtain⟨rfl,rfl,rfl,rfl,rfl,rfl,rfl⟩:=k2;have H4:Hi _:=And.intro k1 (And.intro k3 (And.intro k4 (And.intro k5 k6)));clear k1 k3 k4 k5 k6 HTX;go_wp2_with fail;refine(HTT.o t' _ _ _ H4.o.2.2.2.1 H4.o.2.2.2.2 H4.o.2.2.1).mono ?_;rintro e w1 ⟨s,rfl,hs,hk1⟩;have HWK:Hi (Ok w w1):=((Ok.refl w).alloc _).step hk1;have HB1:Hi _:=Ok.row' hk1 (za3 _ _);have HT1:Hi _:=H4.o.2.2.2.2.ok HWK.o;have HSX:Hi _:=hs;have HTK:Hi _:=H4.o.1;have HTO:Hi _:=And.intro H4.o.2.1 H4.o.2.2.1;have HTB:Hi _:=H4.o.2.2.2.1;clear hs hk1 H4;obtain⟨gb,hgb⟩:=qq (w.heap.size);rw[<-hgb]at HB1 ⊢;have HGB:Hi (gb=w.heap.size):=hgb;have HS1:Hi _:=HS.o.step HWK.o;clear hgb c9 c12 c13 c14 c15 c16 cfz lgf lgt tfz mc lbm;obtain⟨c9,c12,c13,c14,c15,c16,cfz,lgf,lgt,tfz⟩:=HS1.o.cells HF.o;obtain⟨b0,b1,b2,b3,b4,b5⟩:=za9 HB1.o;have lgb:=za2 HB1.o;have HKY:Hi (keyOf Tryz.prog 9 (.string s)=some (.string (FC Lib.itoa ((k:Int),t')))):=by rw[<-HSX.o];exact yy8 (yy9 HI.o (HUP.o _ HTO.o.2))
  have HLK:Hi ((Instr.lookup 217 (.map (some F.gm)) (.string s) true).run Tryz.prog w1=.ok (.tuple #[nI ((txF vs (.string s)).getD 0),.bool (txF vs (.string s)).isSome]) w1):=HS1.o.mp.look_ok wp5 Tryz.underlying217 HKY.o;have HTF:Hi (txF vs (.string s)=(look vs ((k:Int),t')).map λj=>(j:Int)):=by rw[<-HSX.o];exact yc2 HJ.o.tok HTO.o.1
  cases hl:look vs ((k:Int),t') with
  | some j =>
   have hlk:(Instr.lookup 217 (.map (some F.gm)) (.string s) true).run Tryz.prog w1=.ok (.tuple #[nI (j:Nat),.bool true]) w1:=by have h1:=HLK.o;rw[HTF.o,hl]at h1;exact h1
   have HV:Hi (p.vert vs (k:Int) t=some (vs,j)):=by unfold Hi Pl.vert;rw[<-HTK.o,hl]
   clear hl;go_wp2_with fail;go_ret;unfold wk2;rw[HV.o];exact⟨rfl,_,HS1.o,HJ.o,VK.ok HWK.o⟩
  | none =>
   have hlk:(Instr.lookup 217 (.map (some F.gm)) (.string s) true).run Tryz.prog w1=.ok (.tuple #[nI 0,.bool false]) w1:=by have h1:=HLK.o;rw[HTF.o,hl]at h1;exact h1
   have HL:=hid hl;have tc:=HS1.o.cnt HK.o;obtain⟨c,hc9⟩:=qq (many vs (k:Int));have HC:Hi (c=many vs (k:Int)):=hc9;rw[<-hc9]at tc;clear hl hc9
   go_upto_region 7 with (fail)
   go_quiet (fail);obtain⟨Y,hY⟩:=qq (w1.drewN nq);have HKY1:Hi (Ok w1 Y):=by rw[hY];exact(Ok.refl w1).draws _
   rw[<-hY];clear hY hlk HLK c9 c12 c13 c14 c15 c16 cfz lgf lgt tfz b0 b1 b2 b3 b4 b5 lgb tc;have HSY:Hi _:=HS1.o.step HKY1.o;have HTY:Hi _:=HT1.o.ok HKY1.o;have HBY:Hi _:=Ok.row' HKY1.o HB1.o;have HKWY:=hid (HWK.o.step HKY1.o);clear HS1 HT1 HB1 HWK HKY1;obtain⟨c9,c12,c13,c14,c15,c16,cfz,lgf,lgt,tfz⟩:=HSY.o.cells HF.o;have tc:=HSY.o.cnt HK.o;rw[<-HC.o]at tc;have tfk:=tfz k;by_cases hcc:c=p.cap
   ·have hb:((c:Int)==(p.cap:Int))=true:=by rw[hcc];simp
    have HV:Hi (p.vert vs (k:Int) t=Option.none):=by unfold Hi Pl.vert;rw[<-HTK.o,HL.o];show(if many vs (k:Int)=p.cap then Option.none else _)=_;rw[<-HC.o,if_pos hcc]
    clear hcc;go_wp2_with fail;refine⟨rfl,?_⟩;unfold wk2;rw[HV.o];exact⟨rfl,HSY.o.ok⟩
   have hb:((c:Int)==(p.cap:Int))=false:=by rw[beq_eq_false_iff_ne];omega
   have HNC:=hid hcc;have kw:IntKind.i64.wrap ((c:Int)+1)=(c:Int)+1:=by have h1:=HJ.o.vi.cnt (k:Int);have h2:=HC.o;have h3:=HF.o.small.2;rw[IntKind.wrap_i64];omega
   clear hcc
   go_upto_region 10 with (fail)
   obtain⟨Z,hZ⟩:=qq (Y.setCell ⟨F.gt,k,none⟩ (nI ((c:Int)+1)));rw[<-hZ];have HSZ:Hi _:=HSY.o.count HF.o HK.o t';rw[<-HC.o,<-hZ]at HSZ;have HG:Hi (gb≠F.gt/\gb≠F.gf/\gb≠F.gm/\F.B<=gb):=by have h1:=HGB.o;have h2:=HS.o.le;have h3:=HF.o.fB;have h4:=HF.o.tB;have h5:=HF.o.mB;unfold Hi;omega
   have HBZ:Hi _:=zk3 HBY.o (p:=⟨F.gt,k,none⟩) HG.o.1 (nI ((c:Int)+1));have HTZ:Hi _:=HTY.o.off (p:=⟨F.gt,k,none⟩) HF.o.tB (nI ((c:Int)+1));rw[<-hZ]at HBZ HTZ;have HVZ:Hi (VK F w (.slice vo vs.length vc) Z (.slice vo vs.length vc)):=by unfold Hi;rw[hZ];exact⟨by have:=HKWY.o.le;simpa using this,λb o h0 _ _ h3 _=>zk3 (Ok.row' HKWY.o h0) (p:=⟨F.gt,k,none⟩) h3 _,λb e=>.inl e⟩
   clear hZ c9 c12 c13 c14 c15 c16 cfz lgf lgt tfz tc tfk kw hb HSY HTY HBY;have HSD:Hi _:=HSZ.o.step (Below.drew (Ok.refl Z));obtain⟨w3,hput,HM3,HG3⟩:=HSD.o.mp.put (f':=txF (vs++[((k:Int),t')])) wp5 Tryz.underlying217 HKY.o (y:=(vs.length:Nat)) (by omega) (by have:=HO.o.2.2;omega) (by have:=HO.o.2.2;unfold maxLen;omega) (by rw[<-HSX.o];exact yc3 HJ.o.tok HTO.o.1 HL.o) (by intro u hu;rw[<-HSX.o]at hu;exact yy7 hu);have HS3:Hi _:=HSD.o.put HF.o HM3 HG3;have HB3:Hi _:=(HG3.block gb (za2 HBZ.o) (λe=>HG.o.2.2.1 (Option.some.inj e))).trans HBZ.o;have HT3:Hi _:=(HTZ.o.ok (Below.drew (Ok.refl Z))).kept HG3 HF.o.mB;have HGS:=hid HG3.size;have HV3:Hi (VK F w (.slice vo vs.length vc) w3 (.slice vo vs.length vc)):=⟨Nat.le_trans HVZ.o.size HG3.size,λb o h0 h1 h2 h3 h4=>(HG3.block b (za2 (HVZ.o.far b o h0 h1 h2 h3 h4)) (λe=>h2 (Option.some.inj e))).trans (HVZ.o.far b o h0 h1 h2 h3 h4),λb e=>.inl e⟩;clear HM3 HG3 HVZ;obtain⟨c9,c12,c13,c14,c15,c16,cfz,lgf,lgt,tfz⟩:=HSZ.o.cells HF.o;obtain⟨_,_,d13,d14,d15,d16,dfz,lgf3,lgt3,_⟩:=HS3.o.cells HF.o
   go_region_held3 (λw'=>w'.cell? (aD F.gf 13)=some (.slice vo vs.length vc)/\w'.cell? (aD F.gf 15)=some (.map (some F.gm))) (go_keep) (fail)
   clear c9 c12 c13 c14 c15 c16 cfz lgf lgt tfz hput HSZ HSD HBZ HTZ
   go_upto_region 11 with (fail)
   obtain⟨xb,x1,x2,x3,y1,y2,y3,HBG,HTBG,HTG⟩:∃(xb:Bool) (x1:Option Addr) (x2 x3:Nat) (y1:Option Addr) (y2 y3:Nat),Hi (w3.heap[gb]?=some (.cells #[.bool xb,.slice x1 x2 x3,.slice y1 y2 y3] 28 (0,0)))/\Hi (xb=t'.1)/\Hi (AA w3 F.B (.slice x1 x2 x3) (.slice y1 y2 y3) t'):=⟨_,_,_,_,_,_,_,HB3,HTB,HT3⟩;clear HB3 HT3 HTB;obtain⟨b0,b1,b2,b3,b4,b5⟩:=za9 HBG.o;have lgb:=za2 HBG.o;obtain⟨tl,htl,hvo,hold⟩:=HS3.o.vo;have HVO:Hi (tl.length=vs.length/\w3.ownsRow F.B 222 4 (.slice vo vs.length vc) vs.length (vxL vs tl)/\∀(i:Nat) (v:Vx) (x:Value×Value),vs[i]?=some v->tl[i]?=some x->AA w3 F.B x.1 x.2 v.2):=⟨htl,hvo,hold⟩;clear htl hvo hold;have S0:(w3.drew.cell? (aD F.gf 13)=some (.slice vo vs.length vc)/\w3.drew.cell? (aD gb 0)=some (.bool xb)/\w3.drew.cell? (aD gb 1)=some (.slice x1 x2 x3)/\w3.drew.cell? (aD gb 2)=some (.slice y1 y2 y3)/\F.gf<w3.drew.heap.size/\gb<w3.drew.heap.size):=⟨d13,b0,b1,b2,lgf3,lgb⟩;have S1:Ok w3 w3.drew:=Below.drew (Ok.refl _);clear b0 b1 b2 b3 b4 b5 lgb d13 d14 d15 d16 dfz lgf3 lgt3;refine zd5 (λY=>(Y.cell? (aD F.gf 13)=some (.slice vo vs.length vc)/\Y.cell? (aD gb 0)=some (.bool xb)/\Y.cell? (aD gb 1)=some (.slice x1 x2 x3)/\Y.cell? (aD gb 2)=some (.slice y1 y2 y3)/\F.gf<Y.heap.size/\gb<Y.heap.size)) 12 kR ?_;refine tK 0 (pA F.gf 0) S0 ?_;simp only[pu];refine tK 1 (pA F.gf 0) S0 ?_;simp only[pu];refine tK 2 (pA F.gf 0) S0 ?_;simp only[pu];refine tK 3 (pA F.gf 13) S0 ?_;simp only[pu];refine tL 4 (.slice vo vs.length vc) S0 ?_ ?_
   ·intro w' s0;obtain⟨q1,q2,q3,q4,q5,q6⟩:=s0;go_simp;try with_reducible rfl
   simp only[pu];refine tK 5 (nI (k:Nat)) S0 ?_;simp only[pu];refine tL 6 (.agg #[.bool xb,.slice x1 x2 x3,.slice y1 y2 y3]) S0 ?_ ?_
   ·intro w' s0;obtain⟨q1,q2,q3,q4,q5,q6⟩:=s0;go_simp;try with_reducible rfl
   simp only[pu];refine tK 7 (.agg #[nI (k:Nat),.bool xb,.slice x1 x2 x3,.slice y1 y2 y3]) S0 ?_;simp only[pu];refine zb0 (i:=8) kR rfl (λK hK=>?_);go_simp;obtain⟨W4,hW4⟩:=qq ((w3.alloc (Obj.cells #[nI (k:Nat),.bool xb,.slice x1 x2 x3,.slice y1 y2 y3] 222)).drew);have HK4:Hi (Ok w3 W4):=by rw[hW4];exact Below.drew ((Ok.refl w3).alloc _)
   have HSL:Hi (SL W4 4 (.slice (sA w3.heap.size 0) 1 1) 1 [nI (k:Nat),Value.bool xb,Value.slice x1 x2 x3,Value.slice y1 y2 y3]):=by rw[hW4];exact SL.one w3 222 [nI (k:Nat),Value.bool xb,Value.slice x1 x2 x3,Value.slice y1 y2 y3] rfl (by simp[Value.oneCell'])
   rw[<-hW4];clear hW4;have HS4:Hi _:=HS3.o.step HK4.o;have HV4:Hi _:=za1 HVO.o.2.1 HK4.o;have HB4:Hi _:=Ok.row' HK4.o HBG.o;obtain⟨_,_,d13,d14,d15,d16,dfz,lgf4,lgt4,_⟩:=HS4.o.cells HF.o;obtain⟨b0,b1,b2,b3,b4,b5⟩:=za9 HB4.o;have lgb:=za2 HB4.o;refine hK.out _ _ (λ_=>⟨d13,b0,b1,b2,lgf4,lgb⟩) ?_;clear hK K;refine zb0 (i:=9) kR rfl (λK hK=>?_);refine zn6 rfl _ _ 64 222 4 64 _ rfl Tryz.underlying64 wp6 (by rfl) dC dC F.B (.slice vo vs.length vc) vs.length (vxL vs tl) (by rfl) HV4.o (.slice (sA w3.heap.size 0) 1 1) 1 [nI (k:Nat),Value.bool xb,Value.slice x1 x2 x3,Value.slice y1 y2 y3] (by rfl) HSL.o dC (by have:=HO.o.2.2;omega) HS4.o.le ?_;intro v9 w9 k1 k2 k3;have HA9:Hi _:=k3;clear k3;have HV9:Hi _:=k1;have HG9:Hi _:=k2;obtain⟨vo9,vc9,rfl⟩:=za0 k1;have HF9:Hi (w9.heap[F.gf]?=some (.cells (F.row (.slice vo vs.length vc) lv) 219 (0,0))):=(k2.block F.gf lgf4 (λe=>zf4 HV4.o HF.o.fB e.symm)).trans HS4.o.row;have HB9:Hi _:=(k2.block gb lgb (λe=>zb6 HV4.o HB4.o dC e.symm)).trans HB4.o;clear k1 k2 d13 d14 d15 d16 dfz lgf4 lgt4 b0 b1 b2 b3 b4 b5 lgb;have d13:w9.cell? (aD F.gf 13)=some (.slice vo vs.length vc):=(cell_of_row _ _ 13 _ _ _ HF9.o).trans rfl;have dfz:w9.frozen? (aD F.gf 13)=false:=frozen_of_row _ _ _ _ _ HF9.o;have lgf9:=za2 HF9.o;obtain⟨b0,b1,b2,b3,b4,b5⟩:=za9 HB9.o;have lgb:=za2 HB9.o;refine hK.out _ _ (λ_=>⟨d13,b0,b1,b2,lgf9,lgb⟩) ?_;clear hK K;simp only[pu];refine zb0 (i:=10) kR rfl (λK hK=>?_);go_simp;refine hK.out _ _ (λ_=>⟨d13,b0,b1,b2,lgf9,lgb⟩) ?_;clear hK K;refine zb0 (i:=11) kR rfl (λK hK=>?_);go_simp;refine hK.out _ _ (λ_=>⟨d13,b0,b1,b2,lgf9,lgb⟩) ?_;clear hK K;refine zb0 (i:=12) kR rfl (λK hK=>?_);go_simp;refine hK.out _ _ (λh=>absurd rfl h) ?_;clear hK K;refine zd4 kR ?_ _;have HSV:Hi _:=HS4.o.push HF.o (v:=((k:Int),t')) (x:=(.slice x1 x2 x3,.slice y1 y2 y3)) HVO.o.1 HV4.o (λi v x h1 h2=>(HVO.o.2.2 i v x h1 h2).ok HK4.o) (HTG.o.ok HK4.o) (by have h1:=HV9.o;rw[HTBG.o]at h1;exact h1) HG9.o
   have HVV:Hi (VK F w (.slice vo vs.length vc) (w9.setCell (aD F.gf 13) (.slice vo9 (vs.length+1) vc9)) (.slice vo9 (vs.length+1) vc9)):=by
    have hv4:VK F w (.slice vo vs.length vc) W4 (.slice vo vs.length vc):=HV3.o.trans (VK.ok HK4.o);refine⟨by have h1:=hv4.size;have h2:=HG9.o.size;simp;omega,λb o h0 h1 h2 h3 h4=>zk3 ((HG9.o.block b (za2 (hv4.far b o h0 h1 h2 h3 h4)) (λe=>h4 e.symm)).trans (hv4.far b o h0 h1 h2 h3 h4)) (p:=⟨F.gf,13,none⟩) h1 _,λb e=>?_⟩;rcases HA9.o with h5 | h5
    ·exact .inl (h5 ▸ e)
    rw[e]at h5;exact .inr (by have:=Option.some.inj h5;have:=hv4.size;omega)
   obtain⟨V,hV⟩:=qq (w9.setCell ⟨F.gf,13,none⟩ (.slice vo9 (vs.length+1) vc9));rw[<-hV]at HSV HVV;rw[<-hV];clear hV d13 dfz lgf9 b0 b1 b2 b3 b4 b5 lgb HS4 HV4 HB4 HF9 HB9 HV9 HG9
   have hlk:(Instr.lookup 217 (.map (some F.gm)) (.string s) false).run Tryz.prog V=.ok (nI (vs.length:Nat)) V:=by have h1:=HSV.o.mp.look wp5 Tryz.underlying217 HKY.o;rw[<-HSX.o,yc3 HJ.o.tok HTO.o.1 HL.o,HSX.o]at h1;exact h1
   obtain⟨_,_,d13,d14,d15,d16,dfz,lgfV,lgtV,_⟩:=HSV.o.cells HF.o;have HV:Hi (p.vert vs (k:Int) t=some (vs++[((k:Int),t')],vs.length)):=by unfold Hi Pl.vert;rw[<-HTK.o,HL.o];show(if many vs (k:Int)=p.cap then Option.none else _)=_;rw[<-HC.o,if_neg HNC.o]
   go_wp2_with fail;go_ret;unfold wk2;rw[HV.o]
   exact⟨rfl,_,HSV.o,HJ.o.add HTO.o.1 HTO.o.2 (zo5 HJ.o.vi HD.o HV.o).1,HVV.o⟩)
end
section
open Go.RowKit Go.Maps
def wh6(es:List Ed)(n:Int):List Int:=(CP es n).map λx=>(x.1:Int)
def mgB(N:Nat)(p:Pl):List Value:=(List.range N).map λ(n:Nat)=>.bool (p.mgd (n:Int))
structure PI(w:World)(a:Nat->Value)(N:Nat)(p:Pl):Prop where
 nodes:a 6=nI (N:Nat)
 edges:SL w 6 (a 8) p.es.length (edL p.es)
 cap:a 9=nI (p.cap:Nat)
 steps:∃sv:List Value,SL w 1 (a 10) p.es.length sv/\∀(i:Nat) (e:Ed),p.es[i]?=some e->∃v,sv[i]?=some v/\ET w v (AK p.H p.U e i)
 outs:∃ov:List Value,SL w 1 (a 11) N ov/\∀n,n<N->∃v,ov[n]?=some v/\SL w 1 v (CP p.es (n:Int)).length (ilL (wh6 p.es (n:Int)))
 mrg:SL w 1 (a 12) N (mgB N p)
 sls:∀i,i<6->∃ao n c,a i=.slice ao n c
 exi:∃x,a 7=nI x
structure PB(N:Nat)(p:Pl):Prop where
 win:FG N p.es
 frm:∀e∈p.es,0<=e.from'/\e.from'<(N:Int)
 small:N<=1000/\p.cap<=10/\p.es.length<=5000
 pos:0<p.cap
 unr:0<=p.U/\p.U<=1000
theorem PI.ok{a:Nat->Value}(h:PI w a N p)(hk:Ok w w'):PI w' a N p:=by obtain⟨sv,h1,h2⟩:=h.steps;obtain⟨ov,h3,h4⟩:=h.outs;exact⟨h.nodes,h.edges.below hk,h.cap,⟨sv,h1.below hk,λi e he=>by obtain⟨v,e1,e2⟩:=h2 i e he;exact⟨v,e1,e2.ok hk⟩⟩,⟨ov,h3.below hk,λn hn=>by obtain⟨v,e1,e2⟩:=h4 n hn;exact⟨v,e1,e2.below hk⟩⟩,h.mrg.below hk,h.sls,h.exi⟩
theorem TkB.step{H U:Int}{e:Ed}{i:Nat}(h:TkB M t)(hf:I64 e.from')(hi:I64 (i:Int))(hU:0<=U/\U<=1000):TkB (M+1) (AK H U e i t):=by
 have hup:∀x∈wa9 U t.2.2,I64 x.1/\I64 x.2:=λx hx=>by
  unfold wa9 at hx
  cases hg:t.2.2.getLast? with
  | none=>rw[hg]at hx;exact h.li x hx
  | some y =>
   rw[hg]at hx;rcases List.mem_append.1 hx with hx | hx
   ·exact h.li x (List.dropLast_subset _ hx)
   have hy:=h.li y (List.mem_of_getLast? hg);rw[List.mem_singleton.1 hx];refine⟨hy.1,?_⟩;have h1:=hy.2.1;have h2:=hy.2.2;show I64 (if y.2<U then y.2+1 else U);unfold I64
   split<;>omega
 have hul:(wa9 U t.2.2).length<=t.2.2.length:=by
  unfold wa9
  cases hg:t.2.2.getLast? with
  | none=>exact nR_ _
  | some y =>
   simp only[List.length_append,List.length_dropLast,List.length_singleton];have:0<t.2.2.length:=List.length_pos_iff.2 (λe=>by rw[e]at hg;cases hg);omega
 have h1:=h.hl;have h2:=h.ll;have hz:TkB (M+1) (false,t.2.1,t.2.2):=⟨by show t.2.1.length<=_;omega,by show t.2.2.length<=_;omega,h.hi,h.li⟩;unfold AK
 split
 ·exact⟨by simp[EX],by simp[EX],by simp[EX],by simp[EX]⟩
 split
 ·exact hz
 split
 ·split
  ·refine⟨by show(t.2.1++[(i:Int)]).length<=_;rw[List.length_append,List.length_singleton];omega,by show t.2.2.length<=_;omega,λx hx=>?_,h.li⟩
   rcases List.mem_append.1 hx with hx | hx
   ·exact h.hi x hx
   rw[List.mem_singleton.1 hx];exact hi
  exact hz
 split
 ·split
  ·exact⟨by show t.2.1.length<=_;omega,by show t.2.2.dropLast.length<=_;rw[List.length_dropLast];omega,h.hi,λx hx=>h.li x (List.dropLast_subset _ hx)⟩
  exact hz
 split
 ·split
  ·exact⟨by show t.2.1.length<=_;omega,by show(wa9 U t.2.2).length<=_;omega,h.hi,hup⟩
  refine⟨by show t.2.1.length<=_;omega,by show(t.2.2++[(e.from',(1:Int))]).length<=_;rw[List.length_append,List.length_singleton];omega,h.hi,λx hx=>?_⟩;rcases List.mem_append.1 hx with hx | hx
  ·exact h.li x hx
  rw[List.mem_singleton.1 hx];exact⟨hf,by unfold I64;omega⟩
 exact hz
theorem EI.step{H U:Int}{e:Ed}{i:Nat}(h:EI t):EI (AK H U e i t):=λh1=>by rw[zj5]at h1;unfold AK;rw[if_pos h1]
def wl7(w0:World)(p:Pl)(f:Nat)(e:Ending)(w':World):Prop :=
 match p.find f with
 | .inl n=>e=.panicked [{ v:=.iface 200 (nI n),recovered:=false }]/\Ok w0 w'
 | .inr r=>∃(vv lv:Value) (B:Nat),e=.returned (.agg #[vv,lv,sZ])/\DV w' B vv r.1/\w'.ownsRow B 144 3 lv r.2.length (lkL r.2)/\w0.heap.size<=B/\Ok w0 w'
structure F0(W u:World)(a:Nat->Value)(N:Nat)(s3:Value):Prop where
 at_:∃gf gm gt:Nat,s3=pA gf 0/\u.heap[gf]?=some (.cells #[a 0,a 1,a 2,a 3,a 4,a 5,a 6,a 7,a 8,a 9,a 10,a 11,a 12,sZ,sZ,.map (some gm),.slice (sA gt 0) N N] 219 (0,0))/\CH u 9 gm 0 (λ_=>Option.none)/\u.ownsRow W.heap.size 3 1 (.slice (sA gt 0) N N) N (ilL (List.replicate N 0))/\W.heap.size<=gf/\W.heap.size<=gm/\W.heap.size<=gt/\gf≠gm/\gf≠gt/\gm≠gt
 ok:Ok W u
theorem zg9{ops:Array Oper}{o:Oper}{a:Act}{K:Act->World->Prop}{Q:Exit->Act->World->Prop}{E:Prop}(hgd:o.guard=none)(ty:TypeId)(x y:Operand)(ho:o.op=.store ty x y)(g:Nat)(t:TypeId)(old cells:Array Value)
  (hx:a.eval x=pA g 0) (hy:a.eval y=.agg cells) (hg:w.heap[g]?=some (.cells old t (0,0))) (hi:(Tryz.prog.info? ty).map (·.size)=some cells.size) (hs:old.size=cells.size) (h1:cells.all (·.oneCell')=true) (hd:o.dst=none) (h:K a (w.setRow g cells)) :
  if Region.wanted o (yielded ops a.tmps)=true then Oper.wp Tryz.prog o a w K Q else E:=by
 have hw:Region.wanted o (yielded ops a.tmps)=true:=by simp[Region.wanted,hgd]
 rw[if_pos hw];unfold Oper.wp execOp;simp only[ho,hx,hy,Instr.storeAt,Instr.sureAddr,Sem.run_bind,Sem.run_pure,Result.andThen_ok,run_storeVar_row w g t ty old cells hg hi hs h1];show K (a.put o.dst undef) (w.setRow g cells);rw[hd];exact h
theorem zd0(h:Ok w0 w)(hg:w0.heap.size<=g)(cs:Array Value):Ok w0 (w.setRow g cs):=⟨h.os,h.tape,h.output,by rw[size_setRow];exact h.size,λk hk=>(setRow_other _ _ _ _ (by omega)).trans (h.block k hk)⟩
theorem CH.row{k:TypeId}{b:Nat}{f:Value->Option Int}(h:CH w k b N f)(hg:g≠b)(cs:Array Value):CH (w.setRow g cs) k b N f :=
 h.kept (r:=some g) ⟨rfl,rfl,rfl,by simp,λk hk hne=>setRow_other _ _ _ _ (λe=>hne (by rw[e]))⟩ (λe=>hg (Option.some.inj e).symm)
theorem yo3(w:World)(B N:Nat)(hB:B<=w.heap.size)(hN:N<=1000000):(w.alloc (.cells (madeCells #[nI 0] N) 3)).ownsRow B 3 1 (.slice (sA w.heap.size 0) N N) N (ilL (List.replicate N 0)):=by have h:=World.ownsRow_lit (base:=B) (e:=3) (size:=1) w (madeCells #[nI 0] N) N hB (by unfold maxLen;omega) (by rw[size_madeCells];omega);rw[toList_madeCells_one]at h;simpa[ilL] using h
theorem yz1(N:Nat):cnL N []=List.replicate N 0:=by
 unfold cnL;apply List.ext_getElem?;intro i;simp only[List.getElem?_map,List.getElem?_replicate];by_cases h:i<N
 ·rw[List.getElem?_range h,if_pos h];rfl
 rw[List.getElem?_eq_none (by simp;omega),if_neg h];rfl
theorem FS.start{W u:World}{a:Nat->Value}{s3:Value}(h:F0 W u a N s3)(hcap:a 9=nI (p.cap:Nat))(hm:SL W 1 (a 12) N (mgB N p))(hN:0<N/\N<=1000)(hc:p.cap<=10)(hT:Lib.TabBelow Tryz.prog W.heap.size W "internal/strconv.uint64pow10" .u64 Lib.pow10Tab) :
  ∃F:EY,s3=pA F.gf 0/\F.N=N/\FOk W F p/\FS W F u (sZ) (sZ) [] [] [] []:=by
 obtain⟨gf,gm,gt,hs3,r1,r2,r3,l1,l2,l3,d1,d2,d3⟩:=h.at_;refine⟨⟨gf,gm,gt,u.heap.size,N,N,a⟩,hs3,rfl,⟨l1,l2,l3,za2 r1,r2.lt,(r3.lt gt rfl).2,d1,d2,d3,hcap,?_,hT,⟨by show N<=_;omega,hc⟩⟩,⟨h.ok,Nat.le_refl _,r1,⟨[],rfl,World.ownsRow_nil _ _ _ _,λi v x hv=>by simp at hv⟩,World.ownsRow_nil _ _ _ _,r2.as λkey kl _=>?_,?_⟩⟩
 ·obtain⟨b,o,cap,e1,e2,e3⟩:=hm.at dC hN.1
  exact⟨b,o,cap,e1,e2,λn hn=>e3 n _ (by unfold mgB;rw[List.getElem?_map,List.getElem?_range hn];rfl)⟩
 ·cases key<;>rfl
 show u.ownsRow W.heap.size 3 1 _ N (ilL (cnL N []));rw[yz1];exact r3
theorem FS.link{F:EY}{lv':Value}(h:FS w0 F w vv lv vs vm vc ls)(hF:FOk w0 F p){l:Lk}(hl:w'.ownsRow F.B 144 3 lv' (ls.length+1) (lkL ls++[nI (l.1:Nat),nI (l.2.1:Nat),nI (l.2.2:Nat)]))(hg:w.grownBy w' lv.ownBlock) :
  FS w0 F (w'.setCell (aD F.gf 14) lv') vv lv' vs vm vc (ls++[l]):=by
 have hb:∀b,b<F.B->w'.heap[b]?=w.heap[b]?:=λb hl=>hg.block b (lL_ hl h.le) λe=>zf4 h.lo hl e.symm;obtain⟨tl,h1,h2,h3⟩:=h.vo;have hc:∀(y:Value×Value) (u:Tok),AA w F.B y.1 y.2 u->AA (w'.setCell (aD F.gf 14) lv') F.B y.1 y.2 u:=λy u hy=>⟨zc7 (zd6 hy.hist h.lo dC hg) (zf4 hy.hist hF.fB) _,zc7 (zd6 hy.loops h.lo dC hg) (zf4 hy.loops hF.fB) _⟩;refine⟨(h.ok.grown hg (λb e=>by have h1:=(h.lo.lt b e).1;have h2:=hF.f0;have h3:=hF.fB;omega)).set hF.f0 _,by have h1:=h.le;have h2:=hg.size;simp;omega,?_,⟨tl,h1,zc7 (zd6 h2 h.lo (by decide) hg) (zf4 h2 hF.fB) _,λi v x hv hx=>hc x _ (h3 i v x hv hx)⟩,?_,(h.mp.kept hg (λe=>zf4 h.lo hF.mB e.symm)).set (λe=>hF.fm e.symm) _,zc7 (zb4 h.tk λb e=>by cases e;exact hb _ hF.tB) (λe=>hF.ft (Option.some.inj e).symm) _⟩
 ·rw[<-yc4 F vv lv lv']
  exact heap_setCell_same _ _ _ _ _ _ ((hb _ hF.fB).trans h.row)
 rw[yy5,List.length_append,List.length_singleton];exact zc7 hl (zf4 hl hF.fB) _
theorem wq5:(Tryz.prog.info? 144).map (λi=>(i.zero,i.size,i.bytes))=some (some (.agg #[nI 0,nI 0,nI 0]),3,24):=by kernel_rfl
theorem wq6:(Tryz.prog.info? 219).map (·.size)=some 17:=by kernel_rfl
theorem wc8{a0 a1 a2 a3 a4 a5 a6 a7 a8 a9 a10 a11 a12:Value}{t:TypeId}(h:w.heap[g]?=some (.cells #[a0,a1,a2,a3,a4,a5,a6,a7,a8,a9,a10,a11,a12] t (0,0))) :
  w.cell? (aD g 0)=some a0/\w.cell? (aD g 1)=some a1/\w.cell? (aD g 2)=some a2/\w.cell? (aD g 3)=some a3/\w.cell? (aD g 4)=some a4/\w.cell? (aD g 5)=some a5/\w.cell? (aD g 6)=some a6/\w.cell? (aD g 7)=some a7/\w.cell? (aD g 8)=some a8/\w.cell? (aD g 9)=some a9/\w.cell? (aD g 10)=some a10/\w.cell? (aD g 11)=some a11/\w.cell? (aD g 12)=some a12/\g<w.heap.size :=
 ⟨(cell_of_row _ _ 0 _ _ _ h).trans rfl,(cell_of_row _ _ 1 _ _ _ h).trans rfl,(cell_of_row _ _ 2 _ _ _ h).trans rfl,(cell_of_row _ _ 3 _ _ _ h).trans rfl,(cell_of_row _ _ 4 _ _ _ h).trans rfl,(cell_of_row _ _ 5 _ _ _ h).trans rfl,(cell_of_row _ _ 6 _ _ _ h).trans rfl,(cell_of_row _ _ 7 _ _ _ h).trans rfl,(cell_of_row _ _ 8 _ _ _ h).trans rfl,(cell_of_row _ _ 9 _ _ _ h).trans rfl,(cell_of_row _ _ 10 _ _ _ h).trans rfl,(cell_of_row _ _ 11 _ _ _ h).trans rfl,(cell_of_row _ _ 12 _ _ _ h).trans rfl,za2 h⟩
def OI(W:World)(F:EY)(p:Pl)(f fr:Nat)(wr:World):Prop:=∃(vv lv:Value) (vs:List Vx) (ls:List Lk),FS W F wr vv lv vs vs vs ls/\VJ p vs/\FI p fr vs ls/\fr<=f/\p.verts (f-fr) fr vs ls=p.find f
def II(W:World)(F:EY)(p:Pl)(L0 fr j:Nat)(v:Vx)(vs0:List Vx)(R:Int⊕(List Vx×List Lk))(g5:Nat)(r5:Obj)(xv yv:Value)(wr:World):Prop:=∃(vv lv:Value) (vs:List Vx) (ls:List Lk),FS W F wr vv lv vs vs vs ls/\VJ p vs/\(∃ws,vs=vs0++ws)/\p.edges fr v.2 ((CP p.es v.1).drop j) vs ls=R/\wr.heap[g5]?=some r5/\vv.ownBlock≠some g5/\ls.length=L0+j/\AA wr F.B xv yv v.2
theorem TkB.up{M':Nat}(h:TkB M t)(hm:M<=M'):TkB M' t:=⟨Nat.le_trans h.hl hm,Nat.le_trans h.ll hm,h.hi,h.li⟩
theorem AA.vk{F:EY}{vv':Value}(h:AA w F.B x y t)(hk:VK F w vv w' vv')(hF:FOk w0 F p)(hv:w.ownsRow F.B 222 4 vv n xs):AA w' F.B x y t:=by
 have hb:∀b,F.B<=b->(∃c t f,w.heap[b]?=some (.cells c t f)/\t≠222)->w'.heap[b]?=w.heap[b]?:=λb hb ⟨c,t,f,h1,h2⟩=>by rw[h1];exact hk.far b _ h1 (by have:=hF.fB;omega) (by have:=hF.mB;omega) (by have:=hF.tB;omega) (zb6 hv h1 h2)
 exact⟨zb4 h.hist λb e=>hb b (h.hist.lt b e).1 (by obtain⟨c,f,k⟩:=zf9 h.hist b e;exact⟨c,_,f,k,by decide⟩),zb4 h.loops λb e=>hb b (h.loops.lt b e).1 (by obtain⟨c,f,k⟩:=zf9 h.loops b e;exact⟨c,_,f,k,by decide⟩)⟩
theorem yv5:∀{es:List Ed} {i:Nat} {e:Ed},es[i]?=some e->(edL es)[i*6+1]?=some (nI e.to')
 | [],i,e,h=>by simp at h
 | d::es,i,e,h=>by
  have q:edL (d::es)=nI d.from'::nI d.to'::nI d.op::nI d.place::.bool d.sense::.bool d.loop::edL es:=by simp[edL,edV]
  cases i with
  | zero =>
   simp only[List.getElem?_cons_zero,Option.some.injEq]at h;subst h;rw[q];rfl
  | succ i =>
   simp only[List.getElem?_cons_succ]at h;have:=yv5 h;rw[q,show(i+1)*6+1=i*6+1+1+1+1+1+1+1 by omega];exact this
theorem zr0(es:List Ed)(n:Int):(CP es n).length<=es.length:=by unfold CP;have h:=List.length_filter_le (λx:Nat×Ed=>decide (x.2.from'=n)) ((List.range es.length).zip es);simp at h ⊢;omega
theorem zt5{α:Type}:∀(ll:List (List α)),(∀l∈ll,l.length<=M)->ll.flatten.length<=ll.length*M
 | [],_=>by simp
 | l::ll,h=>by have h1:=zt5 ll λx hx=>h x (List.mem_cons_of_mem _ hx);have h2:=h l List.mem_cons_self;rw[List.flatten_cons,List.length_append,List.length_cons,Nat.add_mul];omega
theorem FI.len{fr:Nat}(h:FI p fr vs ls):ls.length<=fr*p.es.length:=by obtain⟨ll,h1,h2,h3⟩:=h.rows;rw[h2,<-h1];refine zt5 ll λl hl=>?_;obtain⟨i,hi⟩:=List.mem_iff_getElem?.1 hl;obtain⟨v,_,hr⟩:=h3 i l hi;rw[hr.1];exact zr0 _ _
theorem yz2(h:VI p vs)(hw:FG N p.es)(hv:v∈vs):∃k:Nat,v.1=(k:Int)/\k<N:=by
 have h1:0<=v.1/\v.1<(N:Int):=by
  rcases h.dom v hv with e | ⟨d,h1,h2⟩
  ·rw[e];have:=hw.1;omega
  have:=hw.2 d h1;omega
 exact⟨v.1.toNat,by omega,by omega⟩
theorem zU3(p:Pl)(hc:0<p.cap):p.vert [] ((0:Nat):Int) wa1=some ([(0,p.tok 0 wa1)],0):=by
 have h:¬many [] ((0:Nat):Int)=p.cap:=by show ¬0=p.cap;omega
 unfold Pl.vert;show(if many [] ((0:Nat):Int)=p.cap then Option.none else some _)=_;rw[if_neg h];rfl
theorem zU4{fr:Nat}{xs:List (Nat×Ed)}{j:Nat}{x:Nat×Ed}(hx:xs[j]?=some x)(vs:List Vx)(ls:List Lk):p.edges fr t (xs.drop j) vs ls=match p.vert vs x.2.to' (AK p.H p.U x.2 x.1 t) with | none=>.inl x.2.to' | some r=>p.edges fr t (xs.drop (j+1)) r.1 (ls++[(fr,r.2,x.1)]):=by obtain⟨hj,e⟩:=List.getElem?_eq_some_iff.1 hx;rw[List.drop_eq_getElem_cons hj,e];rfl
end
end Go.Proofs.YtpongdpnbclchaaGreatDoor
