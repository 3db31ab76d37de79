import Derived.Test.YtpongdpnbclchaaGreatDoorKGj
set_option maxHeartbeats 8000000
set_option linter.all false
set_option maxRecDepth 100000
namespace Go.Proofs.YtpongdpnbclchaaGreatDoor
variable{H U n:Int}{e:Ed}{es:List Ed}{i ko ks:Nat}{ov sv:List Value}{stv:Value}{w w' w0:World}
section
open Go.RowKit Go.Maps
theorem zU5(p q:Addr)(w:World) :
  CallsD Tryz.prog 99 #[.pointer (some p),.pointer (some q)] .returning w λe u' w'=>e=.returned (.tuple #[])/\u'=.returning/\w'=w:=by
 have hnn:∀w:World,(binOp BinOp.neq 20 .nilIface .nilIface).run Tryz.prog w=.ok (.bool false) w:=λw=>by kernel_rfl
 refine callsD_of_wpS Tryz.func99 rfl λc₀ cs hu=>?_;apply wpS_seq;apply wpS_region;simp[wpOpsS,go_sem,recoverD,hu,Tryz.ntmps99,Exit.thenS];refine wpS_of_wp ?_;show Code.wp _ _ _ { tmps:=#[.pointer (some p),.pointer (some q),.nilIface,undef,undef,.nilIface,undef,undef,undef,undef,undef,undef,undef,undef,undef,undef,undef,undef],defers:=[] } _;go_wp2_with fail;cases c₀
 simp_all [bodyPostS,results,Tryz.results99]
theorem zU6(g h:Nat)(n:Int)(x:Value)(older:List PanicEntry)(w:World)(c0 c1 c2:Value)(hg:w.heap[g]?=some (.cells #[c0,c1,c2] 67 (0,0)))(hh:w.cell? (aD h 0)=some x)(hf:w.frozen? (aD h 0)=false)(hne:¬h=g) :
  CallsD Tryz.prog 99 #[pA g 0,pA h 0] (.panicking ({ v:=.iface 200 (nI n),recovered:=false }::older)) w λe u' w'=>e=.returned (.tuple #[])/\u'=.panicking ({ v:=.iface 200 (nI n),recovered:=true }::older)/\w'=((((w.setCell (aD g 0) (sZ)).setCell (aD g 1) (sZ)).setCell (aD g 2) (sZ)).setCell (aD h 0) (nI n)):=by
 have hnn:∀w:World,(binOp BinOp.neq 20 (.iface 200 (nI n)) .nilIface).run Tryz.prog w=.ok (.bool true) w:=λw=>by kernel_rfl
 have hta:∀w:World,(Instr.typeAssert (.iface 200 (nI n)) 20 200 true).run Tryz.prog w=.ok (.tuple #[nI n,.bool true]) w:=λw=>by kernel_rfl
 obtain⟨b0,b1,b2,b3,b4,b5⟩:=za9 hg;refine callsD_of_wpS Tryz.func99 rfl λc₀ cs hu=>?_;apply wpS_seq;apply wpS_region;simp[wpOpsS,go_sem,recoverD,hu,Tryz.ntmps99,Exit.thenS];refine wpS_of_wp ?_;show Code.wp _ _ _ { tmps:=#[pA g 0,pA h 0,.iface 200 (nI n),undef,undef,.iface 200 (nI n),undef,undef,undef,undef,undef,undef,undef,undef,undef,undef,undef,undef],defers:=[] } _;go_wp2_with fail;simp[bodyPostS,results,Tryz.results99]
def wm0(w0:World)(p:Pl)(f:Nat)(e:Ending)(w':World):Prop :=
 match p.find f with
 | .inl n=>e=.returned (.tuple #[.agg #[sZ,sZ,sZ],nI n])/\Ok w0 w'
 | .inr r=>∃(vv lv:Value) (B:Nat),e=.returned (.tuple #[.agg #[vv,lv,sZ],nI (-1)])/\DV w' B vv r.1/\w'.ownsRow B 144 3 lv r.2.length (lkL r.2)/\w0.heap.size<=B/\Ok w0 w'
theorem zx4{tmps:Array Value}{g h:Nat}{cs:Array Value}{fr:Nat×Nat}(hp:tmps.getD 2 undef=pA g 0)(hq:tmps.getD 3 undef=pA h 0)(hg:w.heap[g]?=some (.cells cs 67 fr))(hs:cs.size=3)(hh:w.cell? (aD h 0)=some (nI n)) :
  (results Tryz.f65 tmps).run Tryz.prog w=.ok (.tuple #[.agg cs,nI n]) w:=by
 have hp':tmps[2]?.getD undef=pA g 0:=by simpa using hp
 have hq':tmps[3]?.getD undef=pA h 0:=by simpa using hq
 have h1:=run_loadVar_row (P:=Tryz.prog) w g 67 67 cs fr _ hg Tryz.underlying67 rfl (by rw[wg6,hs]);have h2:(loadVar 3 ⟨h,0,none⟩).run Tryz.prog w=.ok (nI n) w:=by simp[go_sem,hh]
 simp only[results,Tryz.results65];simp[Sem.run_bind,Result.andThen,hp',hq',asAddr,h1,h2]
theorem zK1(a:Nat->Value)(N:Nat)(p:Pl)(f:Nat)(w:World)(h:PI w a N p)(hp:PB N p)(hf:N*p.cap<f)(hT:Lib.TabBelow Tryz.prog w.heap.size w "internal/strconv.uint64pow10" .u64 Lib.pow10Tab) :
  Calls Tryz.prog 65 #[.agg #[a 0,a 1,a 2,a 3,a 4,a 5,a 6,a 7,a 8,a 9,a 10,a 11,a 12]] w λe w'=>wm0 w p f e w':=by
 have hmf:∀(fn:Fn) (first cap:Array Value) (w:World),(Instr.makeFunc fn first cap).run Tryz.prog w=.ok (.func fn first cap) w:=λ_ _ _ _=>rfl;have HP:=hid h;have HB:=hid hp;have HF:=hid hf;have HTB:=hid hT;clear h hp hf hT
 go_enter_defers Tryz.func65,Tryz.ntmps65
 go_wp2_with fail;obtain⟨W,hW⟩:=qq (((w.alloc (Obj.cells #[a 0,a 1,a 2,a 3,a 4,a 5,a 6,a 7,a 8,a 9,a 10,a 11,a 12] 139)).alloc (Obj.cells #[sZ,sZ,sZ] 67)).alloc (Obj.cells #[nI 0] 3));obtain⟨g,hg⟩:=qq (w.heap.size+1);obtain⟨h,hh⟩:=qq (w.heap.size+1+1);rw[<-hW,<-hh,<-hg];have HK:Hi (Ok w W):=by rw[hW];exact(((Ok.refl w).alloc _).alloc _).alloc _
 have HRG:Hi (W.heap[g]?=some (.cells #[sZ,sZ,sZ] 67 (0,0))):=by rw[hW,hg];exact jj
 have HRH:Hi (W.heap[h]?=some (.cells #[Value.int .i64 0] 3 (0,0))):=by rw[hW,hh];exact jj
 have HG:Hi (w.heap.size<=g/\w.heap.size<=h/\¬h=g/\g<W.heap.size/\h<W.heap.size):=by unfold Hi;rw[hW];simp;omega
 clear hW hg hh;refine(yo1 a N p f W (HP.o.ok HK.o) HB.o HF.o (λw' hw'=>HTB.o w' (Below.trans HK.o (hw'.mono HK.o.le)))).mono ?_;rintro e w1 hv;unfold wl7 at hv
 cases hpf:p.find f with
 | inl n =>
  rw[hpf]at hv;obtain⟨rfl,hok⟩:=hv;have HO:=hid hok;have HFN:=hid hpf;have hrg:=Ok.row' hok HRG.o;have hrh:=Ok.row' hok HRH.o;have HRG1:Hi _:=hrg;have HRH1:Hi _:=hrh;clear hok hpf;show bodyPostD _ _ _ (Exit.panic _) _ w1;refine leaves_cons (f:=99) (args:=#[pA g 0,pA h 0]) (by simp) (by simp[go_sem]) ?_;refine(zU6 g h n (nI 0) [] w1 _ _ _ hrg ((cell_of_row _ _ 0 _ _ _ hrh).trans rfl) (frozen_of_row _ _ _ _ _ hrh) HG.o.2.2.1).mono ?_;rintro e u' w2 ⟨rfl,rfl,rfl⟩;have hg2:=(Below.heap_setCell _ (⟨h,0,none⟩:Addr) (nI n) g (λe=>HG.o.2.2.1 e.symm)).trans (zd9 hrg (sZ) (sZ) (sZ));refine⟨_,zx4 (g:=g) (h:=h) rfl rfl hg2 rfl ((cell_of_row _ _ 0 _ _ _ (heap_setCell_same _ h 0 _ 3 (nI n) ((zj4 _ HG.o.2.2.1 _ _ _).trans hrh))).trans rfl),?_⟩;unfold wm0;rw[HFN.o];exact⟨rfl,((HK.o.step HO.o).set3 HG.o.1 _ _ _).set HG.o.2.1 _⟩
 | inr r =>
  rw[hpf]at hv;obtain⟨vv,lv,B,rfl,hvs,hls,hB,hok⟩:=hv;have HO:=hid hok;have HFN:=hid hpf;have HVS:Hi (DV w1 B vv r.1/\w1.ownsRow B 144 3 lv r.2.length (lkL r.2)/\W.heap.size<=B):=⟨hvs,hls,hB⟩;obtain⟨tl,z1,z2,z3⟩:=hvs;obtain⟨vo,vc,rfl⟩:=za0 z2;obtain⟨lo,lc,rfl⟩:=za0 hls;have HRG1:Hi _:=Ok.row' hok HRG.o;have HRH1:Hi _:=Ok.row' hok HRH.o;clear hok hpf hls hB z1 z2 z3;obtain⟨b0,b1,b2,b3,b4,b5⟩:=za9 HRG1.o;have d0:w1.cell? (aD h 0)=some (nI 0):=(cell_of_row _ _ 0 _ _ _ HRH1.o).trans rfl;have d1:w1.frozen? (aD h 0)=false:=frozen_of_row _ _ _ _ _ HRH1.o;have lg:=za2 HRG1.o;have lh:=za2 HRH1.o;have hne:¬h=g:=HG.o.2.2.1;go_wp2_with fail;refine leaves_cons (f:=99) (args:=#[pA g 0,pA h 0]) (by simp) (by simp[go_sem]) ?_;refine(zU5 ⟨g,0,none⟩ ⟨h,0,none⟩ _).mono ?_;rintro e u' w2 ⟨rfl,rfl,rfl⟩;have hg2:=(Below.heap_setCell _ (⟨h,0,none⟩:Addr) (nI (-1)) g (λe=>HG.o.2.2.1 e.symm)).trans (zd9 HRG1.o (.slice vo r.1.length vc) (.slice lo r.2.length lc) (sZ));refine⟨_,zx4 (g:=g) (h:=h) rfl rfl hg2 rfl ((cell_of_row _ _ 0 _ _ _ (heap_setCell_same _ h 0 _ 3 (nI (-1)) ((zj4 _ HG.o.2.2.1 _ _ _).trans HRH1.o))).trans rfl),?_⟩;unfold wm0;rw[HFN.o];have hgB:g<B:=by have h1:=HG.o;have h2:=HVS.o.2.2;omega
  have hhB:h<B:=by have h1:=HG.o;have h2:=HVS.o.2.2;omega
  exact⟨_,_,B,rfl,HVS.o.1.far (λb hb _=>(Below.heap_setCell _ _ _ _ (by show b≠h;omega)).trans (zj4 _ oM _ _ _)),zo6 (zf6 HVS.o.2.1 hgB _ _ _) hhB _,by have h1:=HK.o.le;have h2:=HVS.o.2.2;omega,((HK.o.step HO.o).set3 HG.o.1 _ _ _).set HG.o.2.1 _⟩
end
section
open Go.RowKit Go.Maps
def FD:Value->List Nat
 | .func _ _ caps=>caps.toList.filterMap λv=>match v with | .pointer (some a)=>some a.block | _=>Option.none
 | _=>[]
def Bx(w:World)(g:Nat)(x:Int):Prop:=w.heap[g]?=some (.cells #[nI x] 3 (0,0))
def EJ(w:World)(v:Value)(H U:Int)(e:Ed)(i:Nat):Prop :=
 (v=.func (.func 32) #[] #[]/\∀t,AK H U e i t=cpT t)
 \/ (∃gm ge,v=.func (.func 60) #[] #[pA gm 0,pA ge 0]/\Bx w gm H/\Bx w ge i/\∀t,AK H U e i t=wg4 H i t)
 \/ (∃gh,v=.func (.func 61) #[] #[pA gh 0]/\Bx w gh e.from'/\∀t,AK H U e i t=wh5 e.from' t)
 \/ (∃gm ge,v=.func (.func 63) #[] #[pA gm 0,pA ge 0]/\Bx w gm e.from'/\Bx w ge U/\0<U/\∀t,AK H U e i t=wg5 e.from' U t)
theorem Bx.cell{g:Nat}{x:Int}(h:Bx w g x):w.cell? (aD g 0)=some (nI x):=(cell_of_row _ _ 0 _ _ _ h).trans rfl
theorem EJ.v{v:Value}(h:EJ w v H U e i)(hU:U<=1000):ET w v (AK H U e i):=by
 rcases h with ⟨rfl,h⟩ | ⟨gm,ge,rfl,h1,h2,h⟩ | ⟨gh,rfl,h1,h⟩ | ⟨gm,ge,rfl,h1,h2,h3,h⟩
 ·exact zJ9 w (zj5 H U e i) h
 ·exact zQ2 h1.cell h2.cell (za2 h1) (za2 h2) (zj5 H U e i) h
 ·exact zQ3 h1.cell (za2 h1) (zj5 H U e i) h
 exact zQ4 h1.cell h2.cell (za2 h1) (za2 h2) ⟨h3,hU⟩ (zj5 H U e i) h
theorem EJ.far{v:Value}(h:EJ w v H U e i)(hk:∀b,b∈FD v->(∃c f,w.heap[b]?=some (.cells c 3 f))->w'.heap[b]?=w.heap[b]?):EJ w' v H U e i:=by
 have hb:∀{g:Nat} {x:Int},g∈FD v->Bx w g x->Bx w' g x:=λhm hx=>(hk _ hm ⟨_,_,hx⟩).trans hx;rcases h with ⟨rfl,h⟩ | ⟨gm,ge,rfl,h1,h2,h⟩ | ⟨gh,rfl,h1,h⟩ | ⟨gm,ge,rfl,h1,h2,h3,h⟩
 ·exact .inl ⟨rfl,h⟩
 ·exact .inr (.inl ⟨gm,ge,rfl,hb (by simp[FD]) h1,hb (by simp[FD]) h2,h⟩)
 ·exact .inr (.inr (.inl ⟨gh,rfl,hb (by simp[FD]) h1,h⟩))
 exact .inr (.inr (.inr ⟨gm,ge,rfl,hb (by simp[FD]) h1,hb (by simp[FD]) h2,h3,h⟩))
theorem EJ.ok{v:Value}(h:EJ w v H U e i)(hk:Ok w w'):EJ w' v H U e i:=h.far λb _ ⟨c,f,hb⟩=>(Ok.row' hk hb).trans hb.symm
theorem EJ.lt{v:Value}(h:EJ w v H U e i):∀b∈FD v,b<w.heap.size:=by
 rcases h with ⟨rfl,h⟩ | ⟨gm,ge,rfl,h1,h2,h⟩ | ⟨gh,rfl,h1,h⟩ | ⟨gm,ge,rfl,h1,h2,h3,h⟩
 ·intro b hb;simp[FD]at hb
 ·intro b hb
  simp[FD]at hb;rcases hb with rfl | rfl
  ·exact za2 h1
  exact za2 h2
 ·intro b hb
  simp[FD]at hb;subst hb;exact za2 h1
 intro b hb;simp[FD]at hb;rcases hb with rfl | rfl
 ·exact za2 h1
 exact za2 h2
theorem EJ.form{v:Value}(h:EJ w v H U e i):∃fid caps,v=.func (.func fid) #[] caps:=by rcases h with ⟨rfl,h⟩ | ⟨gm,ge,rfl,h1,h2,h⟩ | ⟨gh,rfl,h1,h⟩ | ⟨gm,ge,rfl,h1,h2,h3,h⟩<;>exact⟨_,_,rfl⟩
theorem zK2(e:Ed)(i:Nat)(H U c2 c3 c4 c5 c7 c8:Int)(tv:Value)(w:World) :
  Calls Tryz.prog 17 #[.agg #[nI e.from',nI e.to',nI e.op,nI e.place,.bool e.sense,.bool e.loop],nI (i:Nat),.agg #[nI H,nI U,nI c2,nI c3,nI c4,nI c5,tv,nI c7,nI c8]] w λex w'=>∃v,ex=.returned v/\EJ w' v H U e i/\Ok w w'/\∀b∈FD v,w.heap.size<=b:=by
 obtain⟨ef,et,eo,ep,es,el⟩:=e;by_cases h5:eo=5
 ·subst h5
  cases el with
  | false =>
   have HG:Hi _:=zF5 (H:=H) (U:=U) (i:=i) (e:=⟨ef,et,5,ep,es,false⟩) rfl rfl;go_enter Tryz.func17,Tryz.ntmps17;go_wp2;go_ret;exact⟨_,rfl,.inr (.inl ⟨_,_,rfl,jj,jj,HG.o⟩),((((Ok.refl w).alloc _).alloc _).alloc _).alloc _,by simp[FD];omega⟩
  | true =>
   cases es with
   | false =>
    have HG:Hi _:=zF6 (H:=H) (U:=U) (i:=i) (e:=⟨ef,et,5,ep,false,true⟩) rfl rfl rfl;go_enter Tryz.func17,Tryz.ntmps17;go_wp2;go_ret;exact⟨_,rfl,.inr (.inr (.inl ⟨_,rfl,jj,HG.o⟩)),(((Ok.refl w).alloc _).alloc _).alloc _,by simp[FD];omega⟩
   | true =>
    by_cases hp:0<U
    ·have HG:Hi _:=zF7 (H:=H) (U:=U) (i:=i) (e:=⟨ef,et,5,ep,true,true⟩) rfl rfl rfl hp
     have HP:=hid hp;go_enter Tryz.func17,Tryz.ntmps17;go_wp2;go_ret;exact⟨_,rfl,.inr (.inr (.inr ⟨_,_,rfl,jj,jj,HP.o,HG.o⟩)),((((Ok.refl w).alloc _).alloc _).alloc _).alloc _,by simp[FD];omega⟩
    have HG:Hi _:=zQ1 (H:=H) (U:=U) (i:=i) (e:=⟨ef,et,5,ep,true,true⟩) rfl rfl rfl hp;go_enter Tryz.func17,Tryz.ntmps17;go_wp2;go_ret;exact⟨_,rfl,.inl ⟨rfl,HG.o⟩,((Ok.refl w).alloc _).alloc _,by simp[FD]⟩
 have HG:Hi _:=zQ0 (H:=H) (U:=U) (i:=i) (e:=⟨ef,et,eo,ep,es,el⟩) h5;have h5':(eo != 5)=true:=by simpa using h5
 go_enter Tryz.func17,Tryz.ntmps17;go_wp2;go_ret;exact⟨_,rfl,.inl ⟨rfl,HG.o⟩,((Ok.refl w).alloc _).alloc _,by simp[FD]⟩
end
section
open Go.RowKit Go.Maps
def CZ(es:List Ed)(n:Int)(k:Nat):List Int:=(we2 es n k).map λx=>(x.1:Int)
theorem yc5{k:Nat}(h:es[k]?=some e)(hf:e.from'=n):CZ es n (k+1)=CZ es n k++[(k:Int)]:=by unfold CZ;rw[zl7 h,if_pos hf,List.map_append];rfl
theorem yo4{k:Nat}(h:es[k]?=some e)(hf:¬e.from'=n):CZ es n (k+1)=CZ es n k:=by unfold CZ;rw[zl7 h,if_neg hf,List.append_nil]
theorem yc6(es:List Ed)(n:Int):CZ es n es.length=wh6 es n:=by unfold CZ wh6;rw[zP8]
structure wh7 where
 gq:Nat
 go:Nat
 gg:Nat
 N:Nat
 cap:Nat
 a:Nat->Value
def wh7.row(Q:wh7)(stv:Value):Array Value:=#[Q.a 0,Q.a 1,Q.a 2,Q.a 3,Q.a 4,Q.a 5,Q.a 6,Q.a 7,Q.a 8,nI (Q.cap:Nat),stv,.slice (sA Q.go 0) Q.N Q.N,.slice (sA Q.gg 0) Q.N Q.N]
structure NPI(w0:World)(Q:wh7)(es:List Ed)(H U:Int)(w:World)(ks ko:Nat)(sv:List Value)(stv:Value)(ov:List Value):Prop where
 ok:Ok w0 w
 base:w0.heap.size<=Q.gq/\w0.heap.size<=Q.go/\w0.heap.size<=Q.gg
 row:w.heap[Q.gq]?=some (.cells (Q.row stv) 139 (0,0))
 st:w.ownsRow w0.heap.size 61 1 stv ks sv
 sd:∀(i:Nat) (e:Ed),i<ks->es[i]?=some e->∃v,sv[i]?=some v/\EJ w v H U e i
 ou:w.ownsRow w0.heap.size 25 1 (.slice (sA Q.go 0) Q.N Q.N) Q.N ov
 orow:∀n,n<Q.N->∃v,ov[n]?=some v/\w.ownsRow w0.heap.size 3 1 v (CZ es (n:Int) ko).length (ilL (CZ es (n:Int) ko))
 odis:∀(n m:Nat) (v u:Value) (b:Nat),ov[n]?=some v->ov[m]?=some u->v.ownBlock=some b->u.ownBlock=some b->n=m
 ocap:∀(i:Nat) (v:Value) (b n:Nat) (u:Value),sv[i]?=some v->b∈FD v->ov[n]?=some u->u.ownBlock≠some b
 sall:∀(i:Nat) (v:Value),sv[i]?=some v->∀b∈FD v,b<w.heap.size
 mg:w.ownsRow w0.heap.size 4 1 (.slice (sA Q.gg 0) Q.N Q.N) Q.N (List.replicate Q.N (.bool false))
theorem NPI.step{Q:wh7}(h:NPI w0 Q es H U w ks ko sv stv ov)(hk:Ok w w'):NPI w0 Q es H U w' ks ko sv stv ov :=
 ⟨h.ok.step hk,h.base,Ok.row' hk h.row,za1 h.st hk,λi e hi he=>by obtain⟨v,h1,h2⟩:=h.sd i e hi he;exact⟨v,h1,h2.ok hk⟩,za1 h.ou hk,λn hn=>by obtain⟨v,h1,h2⟩:=h.orow n hn;exact⟨v,h1,za1 h2 hk⟩,h.odis,h.ocap,λi v hv b hb=>lL_ (h.sall i v hv b hb) hk.le,za1 h.mg hk⟩
theorem yo5(Q:wh7)(stv v:Value):(Q.row stv).setIfInBounds 10 v=Q.row v:=rfl
theorem NPI.gne{Q:wh7}(h:NPI w0 Q es H U w ks ko sv stv ov):Q.gq≠Q.go/\Q.gq≠Q.gg/\Q.go≠Q.gg:=by refine⟨λe=>zb6 h.ou h.row (by decide) (by rw[e];rfl),λe=>zb6 h.mg h.row (by decide) (by rw[e];rfl),λe=>?_⟩;obtain⟨c,f,k⟩:=zf9 h.ou Q.go rfl;exact zb6 h.mg k (by decide) (by rw[e];rfl)
theorem NPI.addStep{Q:wh7}(h:NPI w0 Q es H U w ks ko sv stv ov){v stv':Value}(he:es[ks]?=some e)(hd:EJ w v H U e ks)(hcap:∀b∈FD v,∀(n:Nat) (u:Value),ov[n]?=some u->u.ownBlock≠some b)
  (hv:w'.ownsRow w0.heap.size 61 1 stv' (ks+1) (sv++[v])) (hg:w.grownBy w' stv.ownBlock):NPI w0 Q es H U (w'.setCell (aD Q.gq 10) stv') (ks+1) ko (sv++[v]) stv' ov:=by
 obtain⟨g1,g2,g3⟩:=h.gne;have hsl:sv.length=ks:=by have:=h.st.1;omega
 have hbox:∀b,(∃(c:Array Value) (f:Nat×Nat),w.heap[b]?=some (Obj.cells c 3 f))->(w'.setCell (aD Q.gq 10) stv').heap[b]?=w.heap[b]?:=λb ⟨c,f,hb⟩ =>
  (Below.heap_setCell _ _ _ _ (λe=>by
   have e1:b=Q.gq:=e;subst e1;rw[h.row]at hb
   injection hb with hb
   injection hb with _ hb
   exact absurd hb dC)).trans (hg.block b (za2 hb) (λe=>zb6 h.st hb dC e.symm))
 refine⟨(h.ok.grown hg (λb e=>(h.st.lt b e).1)).set h.base.1 _,h.base,?_,zc7 hv (λe=>?_) _,?_,zc7 (zd6 h.ou h.st dC hg) (λe=>g1 (Option.some.inj e).symm) _,?_,h.odis,?_,?_,zc7 (zd6 h.mg h.st dC hg) (λe=>g2 (Option.some.inj e).symm) _⟩
 ·rw[<-yo5 Q stv stv']
  exact heap_setCell_same _ _ _ _ _ _ ((hg.block Q.gq (za2 h.row) (λe=>zb6 h.st h.row dC e.symm)).trans h.row)
 ·exact zb6 hv ((hg.block Q.gq (za2 h.row) (λe=>zb6 h.st h.row dC e.symm)).trans h.row) dC e
 ·intro i d hi hd'
  by_cases c:i<ks
  ·obtain⟨u,h1,h2⟩:=h.sd i d c hd'
   exact⟨u,by rw[List.getElem?_append_left (by omega)];exact h1,h2.far λb _ hb=>hbox b hb⟩
  have:i=ks:=oM;subst this;rw[he]at hd'
  injection hd' with hd'
  subst hd';exact⟨v,by rw[List.getElem?_append_right (by omega),hsl,Nat.sub_self];rfl,hd.far λb _ hb=>hbox b hb⟩
 ·intro n hn
  obtain⟨u,h1,h2⟩:=h.orow n hn;refine⟨u,h1,zc7 (zd6 h2 h.st dC hg) (λe=>zb6 h2 h.row dC e) _⟩
 ·intro i u b n x hu hb hx
  by_cases c:i<sv.length
  ·rw[List.getElem?_append_left c]at hu
   exact h.ocap i u b n x hu hb hx
  rw[List.getElem?_append_right (by omega)]at hu;by_cases d:i=sv.length
  ·subst d
   simp only[Nat.sub_self,List.getElem?_cons_zero,Option.some.injEq]at hu;subst hu;exact hcap b hb n x hx
  rw[List.getElem?_eq_none (by simp;omega)]at hu;cases hu
 intro i u hu b hb;have hs:w.heap.size<=(w'.setCell (aD Q.gq 10) stv').heap.size:=by have:=hg.size;simpa using this
 by_cases c:i<sv.length
 ·rw[List.getElem?_append_left c]at hu
  exact lL_ (h.sall i u hu b hb) hs
 rw[List.getElem?_append_right (by omega)]at hu;by_cases d:i=sv.length
 ·subst d
  simp only[Nat.sub_self,List.getElem?_cons_zero,Option.some.injEq]at hu;subst hu;exact lL_ (hd.lt b hb) hs
 rw[List.getElem?_eq_none (by simp;omega)]at hu;cases hu
theorem NPI.addOut{Q:wh7}{ks ko:Nat}(h:NPI w0 Q es H U w ks ko sv stv ov){n:Nat}{u u':Value}(hn:n<Q.N)(he:es[ko]?=some e)(hf:e.from'=(n:Int))(hu:ov[n]?=some u)(ho:w.ownsRow w0.heap.size 3 1 u (CZ es (n:Int) ko).length (ilL (CZ es (n:Int) ko)))
  (hv:w'.ownsRow w0.heap.size 3 1 u' ((CZ es (n:Int) ko).length+1) (ilL (CZ es (n:Int) ko)++[nI (ko:Nat)])) (hg:w.grownBy w' u.ownBlock) (hat:u'.ownBlock=u.ownBlock\/u'.ownBlock=some w.heap.size):NPI w0 Q es H U (w'.setCell (aD Q.go n) u') ks (ko+1) sv stv (ov.set n u'):=by
 obtain⟨g1,g2,g3⟩:=h.gne;have hol:ov.length=Q.N:=by have:=h.ou.1;omega
 obtain⟨cg,fg,hgo⟩:=zf9 h.ou Q.go rfl;have hgo':w'.heap[Q.go]?=some (.cells cg 25 fg):=(hg.block Q.go (za2 hgo) (λe=>zb6 ho hgo dC e.symm)).trans hgo
 have hget:∀(m:Nat) (x:Value),(ov.set n u')[m]?=some x->(m=n/\x=u')\/(m≠n/\ov[m]?=some x):=λm x hx=>by
  by_cases c:n=m
  ·subst c
   rw[List.getElem?_set_self (by omega)]at hx;exact .inl ⟨rfl,(Option.some.inj hx).symm⟩
  rw[List.getElem?_set_ne c]at hx;exact .inr ⟨λe=>c e.symm,hx⟩
 refine⟨(h.ok.grown hg (λb e=>(ho.lt b e).1)).set h.base.2.1 _,h.base,?_,zc7 (zd6 h.st ho dC hg) (λe=>zb6 h.st hgo dC e) _,?_,?_,?_,?_,?_,?_,zc7 (zd6 h.mg ho dC hg) (λe=>g3 (Option.some.inj e).symm) _⟩
 ·exact zk3 ((hg.block Q.gq (za2 h.row) (λe=>zb6 ho h.row dC e.symm)).trans h.row) (p:=⟨Q.go,n,none⟩) g1 _
 ·intro i d hi hd
  obtain⟨v,h1,h2⟩:=h.sd i d hi hd;refine⟨v,h1,h2.far λb hb ⟨c,f,hr⟩=>?_⟩
  exact(Below.heap_setCell _ _ _ _ (λe=>by
   have e1:b=Q.go:=e;subst e1;rw[hgo]at hr
   injection hr with hr
   injection hr with _ hr
   exact absurd hr dC)).trans (hg.block b (za2 hr) (λe=>h.ocap i v b n u h1 hb hu e.symm))
 ·exact zA1 (zd6 h.ou ho dC hg) _ oM
 ·intro m hm
  by_cases c:m=n
  ·subst c
   refine⟨u',by rw[List.getElem?_set_self (by omega)],?_⟩;rw[yc5 he hf,List.length_append,List.length_singleton,zJ7];exact zc7 hv (λe=>zb6 hv hgo' dC e) _
  obtain⟨x,h1,h2⟩:=h.orow m hm;refine⟨x,by rw[List.getElem?_set_ne (λe=>c e.symm)];exact h1,?_⟩;rw[yo4 he (by rw[hf];omega)];refine zc7 (zb4 h2 λb hb=>hg.block b (h2.lt b hb).2 λe=>c (h.odis m n x u b h1 hu hb e.symm)) (λe=>zb6 h2 hgo dC e) _
 ·intro i j x y b hx hy bx bz
  have hlt:∀(m:Nat) (z:Value),ov[m]?=some z->z.ownBlock=some b->b<w.heap.size:=λm z hz hb=>by
   obtain⟨x',h1,h2⟩:=h.orow m (by have:=(List.getElem?_eq_some_iff.1 hz).1;omega);rw[hz]at h1
   injection h1 with h1
   subst h1;exact(h2.lt b hb).2
  rcases hget i x hx with ⟨e1,e2⟩ | ⟨e1,e2⟩<;>rcases hget j y hy with ⟨e3,e4⟩ | ⟨e3,e4⟩
  ·rw[e1,e3]
  ·exfalso
   subst e2;rcases hat with e5 | e5
   ·exact e3 (h.odis j n y u b e4 hu bz (by rw[<-e5];exact bx))
   rw[bx]at e5;have:=Option.some.inj e5;have:=hlt j y e4 bz;omega
  ·exfalso
   subst e4;rcases hat with e5 | e5
   ·exact e1 (h.odis i n x u b e2 hu bx (by rw[<-e5];exact bz))
   rw[bz]at e5;have:=Option.some.inj e5;have:=hlt i x e2 bx;omega
  exact h.odis i j x y b e2 e4 bx bz
 ·intro i v b m x hv' hb hx
  rcases hget m x hx with ⟨e1,e2⟩ | ⟨e1,e2⟩
  ·subst e2
   rcases hat with e5 | e5
   ·rw[e5];exact h.ocap i v b n u hv' hb hu
   rw[e5];intro e6;have:=Option.some.inj e6;have:=h.sall i v hv' b hb;omega
  exact h.ocap i v b m x hv' hb e2
 intro i v hv' b hb;have hs:w.heap.size<=(w'.setCell (aD Q.go n) u').heap.size:=by have:=hg.size;simpa using this
 exact lL_ (h.sall i v hv' b hb) hs
end
end Go.Proofs.YtpongdpnbclchaaGreatDoor
