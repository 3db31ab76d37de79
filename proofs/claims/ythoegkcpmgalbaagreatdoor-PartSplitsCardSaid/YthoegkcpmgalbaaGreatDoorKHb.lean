import Derived.Test.YthoegkcpmgalbaaGreatDoorKGj
set_option maxHeartbeats 8000000
set_option linter.all false
set_option maxRecDepth 100000
namespace Go.Proofs.YthoegkcpmgalbaaGreatDoor
open Go.RowKit Go.Maps
variable{H U n:Int}{e:Ed}{es:List Ed}{i ko ks:Nat}{ov sv:List Value}{stv:Value}{w w' w0:World}
def zU5(p q:Addr)(w:World) :
  CallsD Tryz.prog 68 #[.pointer (some p),.pointer (some q)] .returning w λe G w'=>e=.returned (.tuple #[])/\G=.returning/\w'=w:=by
 have o:∀w:World,(binOp BinOp.neq 20 .nilIface .nilIface).run Tryz.prog w=.ok (.bool false) w:=λw=>by kernel_rfl
 refine callsD_of_wpS Tryz.func68 rfl λD cs d=>?_;apply wpS_seq;apply wpS_region;simp[wpOpsS,go_sem,recoverD,d,Tryz.ntmps68,Exit.thenS];refine wpS_of_wp ?_;show Code.wp _ _ _ { tmps:=#[.pointer (some p),.pointer (some q),.nilIface,undef,undef,.nilIface,undef,undef,undef,undef,undef,undef,undef,undef,undef,undef,undef,undef],defers:=[] } _;go_wp2_with fail;cases D
 simp_all [bodyPostS,results,Tryz.results68]
def zU6(g h:Nat)(n:Int)(x:Value)(d:List PanicEntry)(w:World)(O K D:Value)(L:w.heap[g]?=some (.cells #[O,K,D] 37 (0,0)))(hh:w.cell? (aD h 0)=some x)(Y:w.frozen? (aD h 0)=false)(I:¬h=g) :
  CallsD Tryz.prog 68 #[pA g 0,pA h 0] (.panicking ({ v:=.iface 158 (nI n),recovered:=false }::d)) w λe R w'=>e=.returned (.tuple #[])/\R=.panicking ({ v:=.iface 158 (nI n),recovered:=true }::d)/\w'=((((w.setCell (aD g 0) (sZ)).setCell (aD g 1) (sZ)).setCell (aD g 2) (sZ)).setCell (aD h 0) (nI n)):=by
 have J:∀w:World,(binOp BinOp.neq 20 (.iface 158 (nI n)) .nilIface).run Tryz.prog w=.ok (.bool true) w:=λw=>by kernel_rfl
 have o:∀w:World,(Instr.typeAssert (.iface 158 (nI n)) 20 158 true).run Tryz.prog w=.ok (.tuple #[nI n,.bool true]) w:=λw=>by kernel_rfl
 obtain⟨X,b1,Z,b3,W,b5⟩:=za9 L;refine callsD_of_wpS Tryz.func68 rfl λc₀ cs G=>?_;apply wpS_seq;apply wpS_region;simp[wpOpsS,go_sem,recoverD,G,Tryz.ntmps68,Exit.thenS];refine wpS_of_wp ?_;show Code.wp _ _ _ { tmps:=#[pA g 0,pA h 0,.iface 158 (nI n),undef,undef,.iface 158 (nI n),undef,undef,undef,undef,undef,undef,undef,undef,undef,undef,undef,undef],defers:=[] } _;go_wp2_with fail;simp[bodyPostS,results,Tryz.results68]
def wn1(w0:World)(p:Pl)(f:Nat)(e:Ending)(w':World):Prop :=
 match p.find f with
 | .inl n=>e=.returned (.tuple #[.agg #[sZ,sZ,sZ],nI n])/\Ok w0 w'
 | .inr r=>∃(vv lv:Value) (B:Nat),e=.returned (.tuple #[.agg #[vv,lv,sZ],nI (-1)])/\DJ w' B vv r.1/\w'.ownsRow B 78 3 lv r.2.length (lkL r.2)/\w0.heap.size<=B/\Ok w0 w'
def zx4{tmps:Array Value}{g h:Nat}{cs:Array Value}{D:Nat×Nat}(I:tmps.getD 2 undef=pA g 0)(R:tmps.getD 3 undef=pA h 0)(G:w.heap[g]?=some (.cells cs 37 D))(O:cs.size=3)(J:w.cell? (aD h 0)=some (nI n)) :
  (results Tryz.f40 tmps).run Tryz.prog w=.ok (.tuple #[.agg cs,nI n]) w:=by
 have o:tmps[2]?.getD undef=pA g 0:=by simpa using I
 have d:tmps[3]?.getD undef=pA h 0:=by simpa using R
 have L:=run_loadVar_row (P:=Tryz.prog) w g 37 37 cs D _ G Tryz.underlying37 rfl (by rw[wb6,O]);have K:(loadVar 3 ⟨h,0,none⟩).run Tryz.prog w=.ok (nI n) w:=by simp[go_sem,J]
 simp only[results,Tryz.results40];simp[Sem.run_bind,Result.andThen,o,d,asAddr,L,K]
def zK1(a:Nat->Value)(N:Nat)(p:Pl)(f:Nat)(w:World)(h:PI w a N p)(hp:PB N p)(hf:N*p.cap<f)(hT:Lib.TabBelow Tryz.prog w.heap.size w "internal/strconv.uint64pow10" .u64 Lib.pow10Tab) :
  Calls Tryz.prog 40 #[.agg #[a 0,a 1,a 2,a 3,a 4,a 5,a 6,a 7,a 8,a 9,a 10,a 11,a 12]] w λe w'=>wn1 w p f e w':=by
 have a7:∀(fn:Fn) (first cap:Array Value) (w:World),(Instr.makeFunc fn first cap).run Tryz.prog w=.ok (.func fn first cap) w:=λ_ _ _ _=>rfl;have HP:=hid h;have HB:=hid hp;have HF:=hid hf;have a3:=hid hT;clear h hp hf hT
 go_enter_defers Tryz.func40,Tryz.ntmps40
 go_wp2_with fail;obtain⟨W,d⟩:=qq (((w.alloc (Obj.cells #[a 0,a 1,a 2,a 3,a 4,a 5,a 6,a 7,a 8,a 9,a 10,a 11,a 12] 111)).alloc (Obj.cells #[sZ,sZ,sZ] 37)).alloc (Obj.cells #[nI 0] 3));obtain⟨g,D⟩:=qq (w.heap.size+1);obtain⟨h,G⟩:=qq (w.heap.size+1+1);rw[<-d,<-G,<-D];have X:Hi (Ok w W):=by rw[d];exact(((Ok.refl w).alloc _).alloc _).alloc _
 have Z:Hi (W.heap[g]?=some (.cells #[sZ,sZ,sZ] 37 (0,0))):=by rw[d,D];exact jj
 have a1:Hi (W.heap[h]?=some (.cells #[Value.int .i64 0] 3 (0,0))):=by rw[d,G];exact jj
 have J:Hi (w.heap.size<=g/\w.heap.size<=h/\¬h=g/\g<W.heap.size/\h<W.heap.size):=by unfold Hi;rw[d];simp;omega
 clear d D G;refine(yo1 a N p f W (HP.o.ok X.o) HB.o HF.o (λw' a4=>a3.o w' (Below.trans X.o (a4.mono X.o.le)))).mono ?_;rintro e Y hv;unfold wm8 at hv
 cases I:p.find f with
 | inl n =>
  rw[I]at hv;obtain⟨rfl,d⟩:=hv;have HO:=hid d;have R:=hid I;have L:=Ok.row' d Z.o;have K:=Ok.row' d a1.o;have G:Hi _:=L;have D:Hi _:=K;clear d I;show bodyPostD _ _ _ (Exit.panic _) _ Y;refine leaves_cons (f:=68) (args:=#[pA g 0,pA h 0]) (by simp) (by simp[go_sem]) ?_;refine(zU6 g h n (nI 0) [] Y _ _ _ L ((cell_of_row _ _ 0 _ _ _ K).trans rfl) (frozen_of_row _ _ _ _ _ K) J.o.2.2.1).mono ?_;rintro e u' w2 ⟨rfl,rfl,rfl⟩;have O:=(Below.heap_setCell _ (⟨h,0,none⟩:Addr) (nI n) g (λe=>J.o.2.2.1 e.symm)).trans (zd9 L (sZ) (sZ) (sZ));refine⟨_,zx4 (g:=g) (h:=h) rfl rfl O rfl ((cell_of_row _ _ 0 _ _ _ (heap_setCell_same _ h 0 _ 3 (nI n) ((zj4 _ J.o.2.2.1 _ _ _).trans K))).trans rfl),?_⟩;unfold wn1;rw[R.o];exact⟨rfl,((X.o.step HO.o).set3 J.o.1 _ _ _).set J.o.2.1 _⟩
 | inr r =>
  rw[I]at hv;obtain⟨vv,lv,B,rfl,a2,L,hB,d⟩:=hv;have HO:=hid d;have R:=hid I;have K:Hi (DJ Y B vv r.1/\Y.ownsRow B 78 3 lv r.2.length (lkL r.2)/\W.heap.size<=B):=⟨a2,L,hB⟩;obtain⟨tl,z1,z2,z3⟩:=a2;obtain⟨vo,vc,rfl⟩:=za0 z2;obtain⟨lo,lc,rfl⟩:=za0 L;have G:Hi _:=Ok.row' d Z.o;have D:Hi _:=Ok.row' d a1.o;clear d I L hB z1 z2 z3;obtain⟨b0,b1,b2,b3,b4,b5⟩:=za9 G.o;have d0:Y.cell? (aD h 0)=some (nI 0):=(cell_of_row _ _ 0 _ _ _ D.o).trans rfl;have d1:Y.frozen? (aD h 0)=false:=frozen_of_row _ _ _ _ _ D.o;have lg:=za2 G.o;have lh:=za2 D.o;have a6:¬h=g:=J.o.2.2.1;go_wp2_with fail;refine leaves_cons (f:=68) (args:=#[pA g 0,pA h 0]) (by simp) (by simp[go_sem]) ?_;refine(zU5 ⟨g,0,none⟩ ⟨h,0,none⟩ _).mono ?_;rintro e u' w2 ⟨rfl,rfl,rfl⟩;have O:=(Below.heap_setCell _ (⟨h,0,none⟩:Addr) (nI (-1)) g (λe=>J.o.2.2.1 e.symm)).trans (zd9 G.o (.slice vo r.1.length vc) (.slice lo r.2.length lc) (sZ));refine⟨_,zx4 (g:=g) (h:=h) rfl rfl O rfl ((cell_of_row _ _ 0 _ _ _ (heap_setCell_same _ h 0 _ 3 (nI (-1)) ((zj4 _ J.o.2.2.1 _ _ _).trans D.o))).trans rfl),?_⟩;unfold wn1;rw[R.o];have a5:g<B:=by have h1:=J.o;have h2:=K.o.2.2;omega
  have L:h<B:=by have h1:=J.o;have h2:=K.o.2.2;omega
  exact⟨_,_,B,rfl,K.o.1.far (λb hb _=>(Below.heap_setCell _ _ _ _ (by show b≠h;omega)).trans (zj4 _ oM _ _ _)),zo6 (zf6 K.o.2.1 a5 _ _ _) L _,by have h1:=X.o.le;have h2:=K.o.2.2;omega,((X.o.step HO.o).set3 J.o.1 _ _ _).set J.o.2.1 _⟩
def FM:Value->List Nat
 | .func _ _ caps=>caps.toList.filterMap λv=>match v with | .pointer (some a)=>some a.block | _=>Option.none
 | _=>[]
def Bx(w:World)(g:Nat)(x:Int):Prop:=w.heap[g]?=some (.cells #[nI x] 3 (0,0))
def EM(w:World)(v:Value)(H U:Int)(e:Ed)(i:Nat):Prop :=
 (v=.func (.func 102) #[] #[]/\∀t,AM H U e i t=cpT t)
 \/ (∃gm ge,v=.func (.func 142) #[] #[pA gm 0,pA ge 0]/\Bx w gm H/\Bx w ge i/\∀t,AM H U e i t=wg3 H i t)
 \/ (∃gh,v=.func (.func 143) #[] #[pA gh 0]/\Bx w gh e.from'/\∀t,AM H U e i t=wh2 e.from' t)
 \/ (∃gm ge,v=.func (.func 145) #[] #[pA gm 0,pA ge 0]/\Bx w gm e.from'/\Bx w ge U/\0<U/\∀t,AM H U e i t=wg4 e.from' U t)
def Bx.cell{g:Nat}{x:Int}(h:Bx w g x):w.cell? (aD g 0)=some (nI x):=(cell_of_row _ _ 0 _ _ _ h).trans rfl
def EM.v{v:Value}(h:EM w v H U e i)(D:U<=1000):FH w v (AM H U e i):=by
 rcases h with ⟨rfl,h⟩ | ⟨I,G,rfl,d,o,h⟩ | ⟨K,rfl,d,h⟩ | ⟨I,G,rfl,d,o,J,h⟩
 ·exact zJ9 w (zj5 H U e i) h
 ·exact zQ2 d.cell o.cell (za2 d) (za2 o) (zj5 H U e i) h
 ·exact zQ3 d.cell (za2 d) (zj5 H U e i) h
 exact zQ4 d.cell o.cell (za2 d) (za2 o) ⟨J,D⟩ (zj5 H U e i) h
def EM.far{v:Value}(h:EM w v H U e i)(R:∀b,b∈FM v->(∃c f,w.heap[b]?=some (.cells c 3 f))->w'.heap[b]?=w.heap[b]?):EM w' v H U e i:=by
 have d:∀{g:Nat} {x:Int},g∈FM v->Bx w g x->Bx w' g x:=λL J=>(R _ L ⟨_,_,J⟩).trans J;rcases h with ⟨rfl,h⟩ | ⟨I,G,rfl,o,D,h⟩ | ⟨K,rfl,o,h⟩ | ⟨I,G,rfl,o,D,O,h⟩
 ·exact .inl ⟨rfl,h⟩
 ·exact .inr (.inl ⟨I,G,rfl,d (by simp[FM]) o,d (by simp[FM]) D,h⟩)
 ·exact .inr (.inr (.inl ⟨K,rfl,d (by simp[FM]) o,h⟩))
 exact .inr (.inr (.inr ⟨I,G,rfl,d (by simp[FM]) o,d (by simp[FM]) D,O,h⟩))
def EM.ok{v:Value}(h:EM w v H U e i)(o:Ok w w'):EM w' v H U e i:=h.far λb _ ⟨c,f,d⟩=>(Ok.row' o d).trans d.symm
def EM.lt{v:Value}(h:EM w v H U e i):∀b∈FM v,b<w.heap.size:=by
 rcases h with ⟨rfl,h⟩ | ⟨I,G,rfl,o,D,h⟩ | ⟨J,rfl,o,h⟩ | ⟨I,G,rfl,o,D,K,h⟩
 ·intro b d;simp[FM]at d
 ·intro b d
  simp[FM]at d;rcases d with rfl | rfl
  ·exact za2 o
  exact za2 D
 ·intro b d
  simp[FM]at d;subst d;exact za2 o
 intro b d;simp[FM]at d;rcases d with rfl | rfl
 ·exact za2 o
 exact za2 D
def EM.form{v:Value}(h:EM w v H U e i):∃o d,v=.func (.func o) #[] d:=by rcases h with ⟨rfl,h⟩ | ⟨J,I,rfl,D,G,h⟩ | ⟨K,rfl,D,h⟩ | ⟨J,I,rfl,D,G,L,h⟩<;>exact⟨_,_,rfl⟩
def zK2(e:Ed)(i:Nat)(H U Z W X Y R c8:Int)(tv:Value)(w:World) :
  Calls Tryz.prog 67 #[.agg #[nI e.from',nI e.to',nI e.op,nI e.place,.bool e.sense,.bool e.loop],nI (i:Nat),.agg #[nI H,nI U,nI Z,nI W,nI X,nI Y,tv,nI R,nI c8]] w λex w'=>∃v,ex=.returned v/\EM w' v H U e i/\Ok w w'/\∀b∈FM v,w.heap.size<=b:=by
 obtain⟨D,G,L,I,es,O⟩:=e;by_cases K:L=5
 ·subst K
  cases O with
  | false =>
   have d:Hi _:=zF5 (H:=H) (U:=U) (i:=i) (e:=⟨D,G,5,I,es,false⟩) rfl rfl;go_enter Tryz.func67,Tryz.ntmps67;go_wp2;go_ret;exact⟨_,rfl,.inr (.inl ⟨_,_,rfl,jj,jj,d.o⟩),((((Ok.refl w).alloc _).alloc _).alloc _).alloc _,by simp[FM];omega⟩
  | true =>
   cases es with
   | false =>
    have d:Hi _:=zF6 (H:=H) (U:=U) (i:=i) (e:=⟨D,G,5,I,false,true⟩) rfl rfl rfl;go_enter Tryz.func67,Tryz.ntmps67;go_wp2;go_ret;exact⟨_,rfl,.inr (.inr (.inl ⟨_,rfl,jj,d.o⟩)),(((Ok.refl w).alloc _).alloc _).alloc _,by simp[FM];omega⟩
   | true =>
    by_cases J:0<U
    ·have d:Hi _:=zF7 (H:=H) (U:=U) (i:=i) (e:=⟨D,G,5,I,true,true⟩) rfl rfl rfl J
     have HP:=hid J;go_enter Tryz.func67,Tryz.ntmps67;go_wp2;go_ret;exact⟨_,rfl,.inr (.inr (.inr ⟨_,_,rfl,jj,jj,HP.o,d.o⟩)),((((Ok.refl w).alloc _).alloc _).alloc _).alloc _,by simp[FM];omega⟩
    have d:Hi _:=zQ1 (H:=H) (U:=U) (i:=i) (e:=⟨D,G,5,I,true,true⟩) rfl rfl rfl J;go_enter Tryz.func67,Tryz.ntmps67;go_wp2;go_ret;exact⟨_,rfl,.inl ⟨rfl,d.o⟩,((Ok.refl w).alloc _).alloc _,by simp[FM]⟩
 have d:Hi _:=zQ0 (H:=H) (U:=U) (i:=i) (e:=⟨D,G,L,I,es,O⟩) K;have J:(L != 5)=true:=by simpa using K
 go_enter Tryz.func67,Tryz.ntmps67;go_wp2;go_ret;exact⟨_,rfl,.inl ⟨rfl,d.o⟩,((Ok.refl w).alloc _).alloc _,by simp[FM]⟩
def DC(es:List Ed)(n:Int)(k:Nat):List Int:=(EZ es n k).map λx=>(x.1:Int)
def yc5{k:Nat}(h:es[k]?=some e)(d:e.from'=n):DC es n (k+1)=DC es n k++[(k:Int)]:=by unfold DC;rw[zl7 h,aG d,dB];rfl
def yo4{k:Nat}(h:es[k]?=some e)(d:¬e.from'=n):DC es n (k+1)=DC es n k:=by unfold DC;rw[zl7 h,aC d,bD]
def yc6(es:List Ed)(n:Int):DC es n es.length=wh3 es n:=by unfold DC wh3;rw[zP8]
structure wh4 where
 gq:Nat
 go:Nat
 gg:Nat
 N:Nat
 cap:Nat
 a:Nat->Value
def wh4.row(Q:wh4)(stv:Value):Array Value:=#[Q.a 0,Q.a 1,Q.a 2,Q.a 3,Q.a 4,Q.a 5,Q.a 6,Q.a 7,Q.a 8,nI (Q.cap:Nat),stv,.slice (sA Q.go 0) Q.N Q.N,.slice (sA Q.gg 0) Q.N Q.N]
structure NPI(w0:World)(Q:wh4)(es:List Ed)(H U:Int)(w:World)(ks ko:Nat)(sv:List Value)(stv:Value)(ov:List Value):Prop where
 ok:Ok w0 w
 base:w0.heap.size<=Q.gq/\w0.heap.size<=Q.go/\w0.heap.size<=Q.gg
 row:w.heap[Q.gq]?=some (.cells (Q.row stv) 111 (0,0))
 st:w.ownsRow w0.heap.size 156 1 stv ks sv
 sd:∀(i:Nat) (e:Ed),i<ks->es[i]?=some e->∃v,sv[i]?=some v/\EM w v H U e i
 ou:w.ownsRow w0.heap.size 28 1 (.slice (sA Q.go 0) Q.N Q.N) Q.N ov
 orow:∀n,n<Q.N->∃v,ov[n]?=some v/\w.ownsRow w0.heap.size 3 1 v (DC es (n:Int) ko).length (ilL (DC es (n:Int) ko))
 odis:∀(n m:Nat) (v u:Value) (b:Nat),ov[n]?=some v->ov[m]?=some u->v.ownBlock=some b->u.ownBlock=some b->n=m
 ocap:∀(i:Nat) (v:Value) (b n:Nat) (u:Value),sv[i]?=some v->b∈FM v->ov[n]?=some u->u.ownBlock≠some b
 sall:∀(i:Nat) (v:Value),sv[i]?=some v->∀b∈FM v,b<w.heap.size
 mg:w.ownsRow w0.heap.size 4 1 (.slice (sA Q.gg 0) Q.N Q.N) Q.N (List.replicate Q.N (.bool false))
def NPI.step{Q:wh4}(h:NPI w0 Q es H U w ks ko sv stv ov)(d:Ok w w'):NPI w0 Q es H U w' ks ko sv stv ov :=
 ⟨h.ok.step d,h.base,Ok.row' d h.row,za1 h.st d,λi e K I=>by obtain⟨v,D,o⟩:=h.sd i e K I;exact⟨v,D,o.ok d⟩,za1 h.ou d,λn J=>by obtain⟨v,D,o⟩:=h.orow n J;exact⟨v,D,za1 o d⟩,h.odis,h.ocap,λi v L b G=>lL_ (h.sall i v L b G) d.le,za1 h.mg d⟩
def yo5(Q:wh4)(stv v:Value):(Q.row stv).setIfInBounds 10 v=Q.row v:=rfl
def NPI.gne{Q:wh4}(h:NPI w0 Q es H U w ks ko sv stv ov):Q.gq≠Q.go/\Q.gq≠Q.gg/\Q.go≠Q.gg:=by refine⟨λe=>zb6 h.ou h.row (by decide) (by rw[e];rfl),λe=>zb6 h.mg h.row (by decide) (by rw[e];rfl),λe=>?_⟩;obtain⟨c,f,k⟩:=zf9 h.ou Q.go rfl;exact zb6 h.mg k (by decide) (by rw[e];rfl)
def NPI.addStep{Q:wh4}(h:NPI w0 Q es H U w ks ko sv stv ov){v o:Value}(Z:es[ks]?=some e)(X:EM w v H U e ks)(K:∀b∈FM v,∀(n:Nat) (u:Value),ov[n]?=some u->u.ownBlock≠some b)
  (Y:w'.ownsRow w0.heap.size 156 1 o (ks+1) (sv++[v])) (J:w.grownBy w' stv.ownBlock):NPI w0 Q es H U (w'.setCell (aD Q.gq 10) o) (ks+1) ko (sv++[v]) o ov:=by
 obtain⟨g1,g2,g3⟩:=h.gne;have O:sv.length=ks:=oH h.st.1
 have I:∀b,(∃(c:Array Value) (f:Nat×Nat),w.heap[b]?=some (Obj.cells c 3 f))->(w'.setCell (aD Q.gq 10) o).heap[b]?=w.heap[b]?:=λb ⟨c,f,D⟩ =>
  (Below.heap_setCell _ _ _ _ (λe=>by
   have d:b=Q.gq:=e;subst d;rw[h.row]at D
   injection D with D
   injection D with _ D
   exact absurd D dC)).trans (J.block b (za2 D) (λe=>zb6 h.st D dC e.symm))
 refine⟨(h.ok.grown J (λb e=>(h.st.lt b e).1)).set h.base.1 _,h.base,?_,zc7 Y (λe=>?_) _,?_,zc7 (zd6 h.ou h.st dC J) (λe=>g1 (aI e).symm) _,?_,h.odis,?_,?_,zc7 (zd6 h.mg h.st dC J) (λe=>g2 (aI e).symm) _⟩
 ·rw[<-yo5 Q stv o]
  exact heap_setCell_same _ _ _ _ _ _ ((J.block Q.gq (za2 h.row) (λe=>zb6 h.st h.row dC e.symm)).trans h.row)
 ·exact zb6 Y ((J.block Q.gq (za2 h.row) (λe=>zb6 h.st h.row dC e.symm)).trans h.row) dC e
 ·intro i d W G
  by_cases c:i<ks
  ·obtain⟨u,R,L⟩:=h.sd i d c G
   exact⟨u,by rw[aQ oM];exact R,L.far λb _ D=>I b D⟩
  have:i=ks:=oM;subst this;rw[Z]at G
  injection G with G
  subst G;exact⟨v,by rw[bC oM,O,eJ];rfl,X.far λb _ D=>I b D⟩
 ·intro n G
  obtain⟨u,R,L⟩:=h.orow n G;refine⟨u,R,zc7 (zd6 L h.st dC J) (λe=>zb6 L h.row dC e) _⟩
 ·intro i u b n x G D W
  by_cases c:i<sv.length
  ·rw[aQ c]at G
   exact h.ocap i u b n x G D W
  rw[bC oM]at G;by_cases d:i=sv.length
  ·subst d
   simp only[eJ,bR,cD]at G;subst G;exact K b D n x W
  rw[aS (by simp;omega)]at G;cases G
 intro i u G b D;have W:w.heap.size<=(w'.setCell (aD Q.gq 10) o).heap.size:=by have:=J.size;simpa using this
 by_cases c:i<sv.length
 ·rw[aQ c]at G
  exact lL_ (h.sall i u G b D) W
 rw[bC oM]at G;by_cases d:i=sv.length
 ·subst d
  simp only[eJ,bR,cD]at G;subst G;exact lL_ (X.lt b D) W
 rw[aS (by simp;omega)]at G;cases G
def NPI.addOut{Q:wh4}{ks ko:Nat}(h:NPI w0 Q es H U w ks ko sv stv ov){n:Nat}{u L:Value}(hn:n<Q.N)(he:es[ko]?=some e)(hf:e.from'=(n:Int))(Z:ov[n]?=some u)(Y:w.ownsRow w0.heap.size 3 1 u (DC es (n:Int) ko).length (ilL (DC es (n:Int) ko)))
  (hv:w'.ownsRow w0.heap.size 3 1 L ((DC es (n:Int) ko).length+1) (ilL (DC es (n:Int) ko)++[nI (ko:Nat)])) (K:w.grownBy w' u.ownBlock) (W:L.ownBlock=u.ownBlock\/L.ownBlock=some w.heap.size):NPI w0 Q es H U (w'.setCell (aD Q.go n) L) ks (ko+1) sv stv (ov.set n L):=by
 obtain⟨g1,g2,g3⟩:=h.gne;have a3:ov.length=Q.N:=oH h.ou.1
 obtain⟨cg,fg,o⟩:=zf9 h.ou Q.go rfl;have a2:w'.heap[Q.go]?=some (.cells cg 28 fg):=(K.block Q.go (za2 o) (λe=>zb6 Y o dC e.symm)).trans o
 have G:∀(m:Nat) (x:Value),(ov.set n L)[m]?=some x->(m=n/\x=L)\/(m≠n/\ov[m]?=some x):=λm x O=>by
  by_cases c:n=m
  ·subst c
   rw[iF oM]at O;exact .inl ⟨rfl,(aI O).symm⟩
  rw[iM c]at O;exact .inr ⟨λe=>c e.symm,O⟩
 refine⟨(h.ok.grown K (λb e=>(Y.lt b e).1)).set h.base.2.1 _,h.base,?_,zc7 (zd6 h.st Y dC K) (λe=>zb6 h.st o dC e) _,?_,?_,?_,?_,?_,?_,zc7 (zd6 h.mg Y dC K) (λe=>g3 (aI e).symm) _⟩
 ·exact zk3 ((K.block Q.gq (za2 h.row) (λe=>zb6 Y h.row dC e.symm)).trans h.row) (p:=⟨Q.go,n,none⟩) g1 _
 ·intro i d hi hd
  obtain⟨v,I,R⟩:=h.sd i d hi hd;refine⟨v,I,R.far λb D ⟨c,f,J⟩=>?_⟩
  exact(Below.heap_setCell _ _ _ _ (λe=>by
   have X:b=Q.go:=e;subst X;rw[o]at J
   injection J with J
   injection J with _ J
   exact absurd J dC)).trans (K.block b (za2 J) (λe=>h.ocap i v b n u I D Z e.symm))
 ·exact zA1 (zd6 h.ou Y dC K) _ oM
 ·intro m d
  by_cases c:m=n
  ·subst c
   refine⟨L,by rw[iF oM],?_⟩;rw[yc5 he hf,aA,aZ,zJ7];exact zc7 hv (λe=>zb6 hv a2 dC e) _
  obtain⟨x,I,R⟩:=h.orow m d;refine⟨x,by rw[iM (λe=>c e.symm)];exact I,?_⟩;rw[yo4 he (by rw[hf];omega)];refine zc7 (zb4 R λb D=>K.block b (R.lt b D).2 λe=>c (h.odis m n x u b I Z D e.symm)) (λe=>zb6 R o dC e) _
 ·intro i j x y b O hy d bz
  have a1:∀(m:Nat) (z:Value),ov[m]?=some z->z.ownBlock=some b->b<w.heap.size:=λm z hz D=>by
   obtain⟨J,I,R⟩:=h.orow m (by have:=(aE.1 hz).1;omega);rw[hz]at I
   injection I with I
   subst I;exact(R.lt b D).2
  rcases G i x O with ⟨X,J⟩ | ⟨X,J⟩<;>rcases G j y hy with ⟨e3,e4⟩ | ⟨e3,e4⟩
  ·rw[X,e3]
  ·exfalso
   subst J;rcases W with e5 | e5
   ·exact e3 (h.odis j n y u b e4 Z bz (by rw[<-e5];exact d))
   rw[d]at e5;have:=aI e5;have:=a1 j y e4 bz;omega
  ·exfalso
   subst e4;rcases W with e5 | e5
   ·exact X (h.odis i n x u b J Z d (by rw[<-e5];exact bz))
   rw[bz]at e5;have:=aI e5;have:=a1 i x J d;omega
  exact h.odis i j x y b J e4 d bz
 ·intro i v b m x d D O
  rcases G m x O with ⟨X,J⟩ | ⟨X,J⟩
  ·subst J
   rcases W with e5 | e5
   ·rw[e5];exact h.ocap i v b n u d D Z
   rw[e5];intro e6;have:=aI e6;have:=h.sall i v d b D;omega
  exact h.ocap i v b m x d D J
 intro i v d b D;have hs:w.heap.size<=(w'.setCell (aD Q.go n) L).heap.size:=by have:=K.size;simpa using this
 exact lL_ (h.sall i v d b D) hs
end Go.Proofs.YthoegkcpmgalbaaGreatDoor
