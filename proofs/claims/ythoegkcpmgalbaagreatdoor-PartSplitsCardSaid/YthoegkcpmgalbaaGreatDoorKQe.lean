import Derived.Test.YthoegkcpmgalbaaGreatDoorKPk0
set_option maxHeartbeats 8000000
set_option linter.all false
set_option maxRecDepth 100000
namespace Go.Proofs.YthoegkcpmgalbaaGreatDoor
open Go.RowKit
variable{es:List Ed}{i p:Nat}{n:Nd}{ns:List Nd}{w:World}
def FJ(d:Int):List Nd->Nat
 | []=>0
 | n::r=>if d<n.depth then FJ d r+1 else 0
def AT(ns:List Nd)(p:Nat):Int:=((ns[p]?).map Nd.depth).getD 0
def AC(ns:List Nd)(p:Nat):Nat:=p+1+FJ (AT ns p) (ns.drop (p+1))
def yk0(d:Int):∀l,FJ d l<=l.length
 | []=>nR_ _
 | n::r=>by
  rw[FJ];split
  ·have:=yk0 d r;rw[aR];omega
  exact zL_ _
def ze6(h:p<ns.length):p<AC ns p/\AC ns p<=ns.length:=by unfold AC;have:=yk0 (AT ns p) (ns.drop (p+1));rw[cW]at this;omega
def zI4{k:Nat}(d:Int)(h:ns[k]?=some n):FJ d (ns.drop k)=if d<n.depth then FJ d (ns.drop (k+1))+1 else 0:=by obtain⟨o,e⟩:=aE.1 h;rw[aP o,e];rfl
def AV.get{b o:Nat}(h:AV w b o ns)(D:ns[i]?=some n):w.cell? ⟨b,o+i*6,none⟩=some (nI n.depth)/\w.cell? ⟨b,o+i*6+1,none⟩=some (nI n.kind)/\w.cell? ⟨b,o+i*6+2,none⟩=some (.string n.name)/\w.cell? ⟨b,o+i*6+3,none⟩=some (nI n.num)/\w.cell? ⟨b,o+i*6+4,none⟩=some (nI n.op)/\w.cell? ⟨b,o+i*6+5,none⟩=some (nI n.pos):=by obtain⟨d,e⟩:=aE.1 D;subst e;exact⟨h.c0 i d,h.c1 i d,h.c2 i d,h.c3 i d,h.c4 i d,h.c5 i d⟩
def yu2(v:Value)(ns:List Nd)(p:Nat)(w:World)(h:DF w v ns)(K:p<ns.length)(hl:ns.length<=1000000) :
  Calls Tryz.prog 96 #[v,nI (p:Nat)] w λe w'=>e=.returned (nI (AC ns p:Nat))/\Ok w w':=by
 obtain⟨_,ao,cap,rfl,_,_,D⟩:=h;obtain⟨b,o,rfl,d⟩:=D.resolve_left (λe=>by rw[e]at K;simp at K);have HN:=hid d;clear d D;obtain⟨en,d⟩:=qq (AC ns p);rw[<-d];have a2:IntKind.i64.wrap ((p:Int)+1)=((p+1:Nat):Int):=zb3 oM;have a4:(p:Int)<(ns.length:Int):=za5 K;have HE:Hi (en=p+1+FJ (AT ns p) (ns.drop (p+1))):=d;obtain⟨np,D⟩:∃n,ns[p]?=some n:=⟨_,gG_ K⟩;have HD:Hi (AT ns p=np.depth):=by unfold Hi AT;rw[D];rfl
 have a1:=hid D;clear D;have a5:=hid K;clear d;go_enter Tryz.func96,Tryz.ntmps96;go_wp2_with fail;go_loopw [5] (λt wr=>∃k:Nat,k<=ns.length/\t=nI (k:Nat)/\Hi (en=k+FJ (AT ns p) (ns.drop k))/\Hi (Ok w wr)) (λt _=>((ns.length:Int)-intOf t).toNat)
 case atStart=>exact⟨p+1,K,rfl,HE,Ok.refl _⟩
 obtain⟨k,hk,rfl,L,X⟩:=hrel;have I:=HN.o.below X.o;have a3:=I.lt;by_cases d:k<ns.length
 ·have O:(k:Int)<(ns.length:Int):=za5 d
  have R:decide (k<ns.length)=true:=dT_ d;have a6:IntKind.i64.wrap ((k:Int)+1)=((k+1:Nat):Int):=zb3 oM;obtain⟨nk,D⟩:∃n,ns[k]?=some n:=⟨_,gG_ d⟩;have c0:=(I.get D).1;have d0:=(I.get a1.o).1;have J:=L.o;rw[zI4 (AT ns p) D,HD.o]at J;have Z:=hid HD.o;clear D;generalize np.depth=dp at *;generalize nk.depth=dk at *;have G:=J;clear J;by_cases W:dp<dk
  ·have D:Hi (en=k+1+FJ (AT ns p) (ns.drop (k+1))):=by unfold Hi;rw[G,aG W,Z.o];omega
   clear G L I;have Y:decide (dp<dk)=true:=dT_ W;go_wp2_with fail;go_quiet (fail);go_wp2_with fail;go_roundw
   case rel=>exact⟨k+1,d,rfl,D,X.o.draws _⟩
   case measure=>exact we3 d
  have D:Hi (en=k):=by unfold Hi;rw[G,aC W];rfl
  clear G L I;have Y:decide (dp<dk)=false:=dF_ W;go_wp2_with fail;go_quiet (fail);go_wp2_with fail;go_ret;exact⟨by rw[D.o];rfl,X.o.draws _⟩
 have O:¬(k:Int)<(ns.length:Int):=zb2 d;have R:decide (k<ns.length)=false:=dF_ d
 have D:Hi (en=k):=by have J:=L.o;rw[cP oM]at J;exact J
 clear L I;go_wp2_with fail;go_quiet (fail);go_wp2_with fail;go_ret;exact⟨by rw[D.o];rfl,X.o.draws _⟩
def wg9(n:Nd):Bool:=decide (2<=n.kind)&&decide (n.kind<=8)
def ptF(ns:List Nd)(i:Nat):Nat:=((ns.take i).filter wg9).length
def upN(m:Nat->Nat)(u k:Nat):Nat->Nat:=λx=>if x=u then k else m x
def yk1(m:Nat->Nat)(u k j:Nat):upN (upN m u k) u j=upN m u j:=by funext x;unfold upN;split<;>rfl
def DL(N:Nat)(m:Nat->Nat):Array Value:=((List.range N).map (λi=>Value.int .i64 (m i:Nat))).toArray
def zp1(N:Nat)(m:Nat->Nat)(i:Nat)(h:i<N):(DL N m)[i]?=some (nI (m i:Nat)):=by simp[DL,h]
def zv3(N:Nat)(m:Nat->Nat)(u k:Nat):(DL N m).setIfInBounds u (nI (k:Nat))=DL N (upN m u k):=by
 apply gM;intro i;rw[fZ];by_cases d:i<N
 ·rw[zp1 _ _ i d,zp1 _ _ i d]
  by_cases e:u=i
  ·subst e
   simp[upN,DL,d]
  rw[aC e];have o:¬i=u:=λh=>e h.symm;simp[upN,o]
 have D:(DL N m)[i]?=none:=by simp[DL];omega
 have G:(DL N (upN m u k))[i]?=none:=by simp[DL];omega
 rw[D,G]
 split
 ·rename_i e
  subst e;simp[DL,d]
 rfl
def yu3(N:Nat):madeCells #[nI 0] N=DL N (λ_=>0):=by
 apply Array.ext';rw[toList_madeCells_one];simp[DL];apply List.ext_getElem
 ·simp
 intro i d o;simp
def yu4(N:Nat)(h:N<=10000000)(w:World):(Instr.makeSlice 28 (nI (N:Int)) (nI (N:Int))).run Tryz.prog w=.ok (.slice (sA w.heap.size 0) N N) (w.alloc (.cells (DL N (λ_=>0)) 3)):=by obtain⟨i,G,o,d,D⟩:=zg6 wo2;have:=run_make (P:=Tryz.prog) w 28 3 i (nI 0) Tryz.underlying28 G o .i64 .i64 N N oM (Int.le_refl _) (by rw[D];omega) oM;rw[this];simp only[aO,d,Nat.mul_one];show Result.ok _ (w.alloc (.cells (madeCells #[nI 0] N) 3))=_;rw[yu3]
def wd5(ns:List Nd)(i k:Nat):Nat:=if k<=i then ptF ns k else 0
def zC2(h:ns[i]?=some n):ptF ns (i+1)=ptF ns i+if wg9 n then 1 else 0:=by
 unfold ptF;rw[dH,h,fH,fI,aA]
 cases d:wg9 n<;>simp[d]
def zq9(ns:List Nd)(i:Nat):ptF ns i<=ns.length:=by unfold ptF;exact aH (eP _ _) (by rw[bH];omega)
def zI5(ns:List Nd)(i:Nat):wd5 ns (i+1)=upN (wd5 ns i) (i+1) (ptF ns (i+1)):=by
 funext x;unfold wd5 upN
 by_cases h:x=i+1
 ·subst h;simp
 rw[aC h];by_cases o:x<=i
 ·have d:x<=i+1:=oM
  simp[o,d]
 have d:¬x<=i+1:=oM;simp[o,d]
def ptL(ns:List Nd):List Value:=(List.range (ns.length+1)).map λi=>nI (ptF ns i:Nat)
def opT:List Int:=[0,0,0,1,2,3,4,5,5,0,0,0,0,0,0,0]
structure EK(w:World):Prop where
 lt:3<w.heap.size
 made:∀k:Nat,k<16->w.cell? ⟨3,k*2,none⟩=some (.bool (decide (2<=k)&&decide (k<=8)))
 op:∀k:Nat,k<16->w.cell? ⟨3,k*2+1,none⟩=some (nI (opT.getD k 0))
def EK.below{w1:World}(h:EK w)(d:Ok w w1):EK w1 :=
 ⟨lL_ h.lt d.le,λk o=>d.cell (p:=⟨3,k*2,none⟩) h.lt (h.made k o),λk o=>d.cell (p:=⟨3,k*2+1,none⟩) h.lt (h.op k o)⟩
def zX0(v:Value)(ns:List Nd)(w:World)(h:DF w v ns)(hl:ns.length<=1000)(hk:∀n∈ns,0<=n.kind/\n.kind<=15)(hS:EK w) :
  Calls Tryz.prog 60 #[v] w λe w'=>∃v',e=.returned v'/\w'.ownsRow w.heap.size 3 1 v' (ns.length+1) (ptL ns)/\Ok w w':=by
 have HN:=hid h;have HS:=hid hS;have a8:=hid hk;obtain⟨_,ao,cap,rfl,_,_,_⟩:=h;clear hk hS;have b7:IntKind.i64.wrap ((ns.length:Int)+1)=((ns.length+1:Nat):Int):=zb3 oM;have a5:(Instr.makeSlice 28 (nI ((ns.length:Int)+1)) (nI ((ns.length:Int)+1))).run Tryz.prog w=.ok (.slice (sA w.heap.size 0) (ns.length+1) (ns.length+1)) (w.alloc (.cells (DL (ns.length+1) (λ_=>0)) 3)):=yu4 (ns.length+1) oM w;obtain⟨B,hB⟩:=qq (w.heap.size);have HB:Hi (B=w.heap.size):=hB;go_enter Tryz.func60,Tryz.ntmps60;go_wp2_with fail;rw[<-hB];clear hB a5;go_loopw [12] (λa wr=>∃i:Nat,i<=ns.length/\a=nI (i:Nat)/\Hi (Ok w wr)/\Hi (wr.heap[B]?=some (.cells (DL (ns.length+1) (wd5 ns i)) 3 (0,0)))) (λa _=>ns.length-(intOf a).toNat)
 case atStart =>
  refine⟨0,zL_ _,rfl,(Ok.refl w).alloc _,?_⟩
  have e:wd5 ns 0=λ_=>0:=by
   funext k;unfold wd5
   split
   ·next h =>
    have:k=0:=oM;subst this;simp[ptF]
   rfl
  unfold Hi;rw[e,HB.o];exact za3 _ _
 obtain⟨i,hi,rfl,X,K⟩:=hrel;have a2:=za2 K.o;have O:w.heap.size<=B:=oH HB.o
 by_cases d:i<ns.length
 ·have Y:(i:Int)<(ns.length:Int):=za5 d
  obtain⟨n,hn⟩:∃n,ns[i]?=some n:=⟨_,gG_ d⟩;obtain⟨_,b8,b0,e1,_,_,hN⟩:=HN.o
  injection e1 with e1 e2 e3;clear e2
  subst e1 e3;obtain⟨b,o,rfl,N1⟩:=hN.resolve_left (λe=>by rw[e]at d;simp at d);have b2:=N1.lt;have M1:=N1.below X.o;obtain⟨c0,c1,c2,c3,c4,c5⟩:=M1.get hn;have b4:=M1.lt;obtain⟨a6,a9⟩:=a8.o n (mG_ hn);obtain⟨L,W⟩:∃k:Nat,n.kind=(k:Int):=⟨n.kind.toNat,(dU a6).symm⟩;rw[W]at c1;have a1:L<16:=oM;have a3:(L:Int)<16:=oM;have s0:=(HS.o.below X.o).made L a1;have b5:=(HS.o.below X.o).lt;have I:=zC2 hn
  have Z:wg9 n=(decide (2<=L)&&decide (L<=8)):=by
   unfold wg9;rw[W]
   congr 1
   ·exact eZ.2 oM
   exact eZ.2 oM
  rw[Z]at I;have a7:=zq9 ns i;obtain⟨q,hq⟩:=qq (ptF ns i);have r0:wr.cell? (aD B i)=some (nI (q:Nat)):=(cell_of_row _ _ _ _ _ _ K.o).trans ((zp1 _ _ _ oM).trans (by rw[hq];unfold wd5;rw[aG (aK _)]));have r1:wr.cell? ⟨B,i+1,none⟩=some (nI 0):=(cell_of_row _ _ _ _ _ _ K.o).trans ((zp1 _ _ _ oM).trans (by unfold wd5;rw[aC oM];rfl));have f1:wr.frozen? ⟨B,i+1,none⟩=false:=frozen_of_row _ _ _ _ _ K.o;rw[<-hq]at I a7;have b6:IntKind.i64.wrap ((q:Int)+1)=((q+1:Nat):Int):=zb3 oM;have b1:IntKind.i64.wrap ((i:Int)+1)=((i+1:Nat):Int):=zb3 oM;have b3:(i:Int)+1<(ns.length:Int)+1:=oM;have n1:¬b=wr.heap.size:=oM;have n2:¬B=wr.heap.size:=oM;have n3:¬b=B:=oM;have n4:¬B=b:=oM;have n5:¬3=B:=oH HS.o.lt
  have n6:¬B=3:=oH HS.o.lt
  have n7:¬3=wr.heap.size:=oM;have G:=hid I;have J:=hid O;clear hq I Z W hn N1 M1 hN O
  cases D:(decide (2<=L)&&decide (L<=8)) with
  | true =>
   have R:Hi (ptF ns (i+1)=q+1):=by have:=G.o;rw[D]at this;exact this
   rw[D]at s0;clear D G;go_wp2_with fail;refine⟨⟨i+1,d,by go_num,?_,?_⟩,by simp[intOf];omega⟩
   ·exact((X.o.set (p:=⟨B,i+1,none⟩) J.o _).set (p:=⟨B,i+1,none⟩) J.o _).alloc _
   unfold Hi;have e:DL (ns.length+1) (wd5 ns (i+1))=((DL (ns.length+1) (wd5 ns i)).setIfInBounds (i+1) (nI (q:Nat))).setIfInBounds (i+1) (nI ((q+1:Nat):Int)):=by rw[zv3,zv3,yk1,zI5,R.o]
   rw[e];exact heap_past _ _ _ (by simpa using a2) (heap_setCell_same _ _ _ _ _ _ (heap_setCell_same _ _ _ _ _ _ K.o))
  | false =>
   have R:Hi (ptF ns (i+1)=q):=by have:=G.o;rw[D]at this;exact this
   rw[D]at s0;clear D G;go_wp2_with fail;refine⟨⟨i+1,d,by go_num,?_,?_⟩,by simp[intOf];omega⟩
   ·exact(X.o.set (p:=⟨B,i+1,none⟩) J.o _).alloc _
   unfold Hi;have e:DL (ns.length+1) (wd5 ns (i+1))=(DL (ns.length+1) (wd5 ns i)).setIfInBounds (i+1) (nI (q:Nat)):=by rw[zv3,zI5,R.o]
   rw[e];exact heap_past _ _ _ (by simpa using a2) (heap_setCell_same _ _ _ _ _ _ K.o)
 have Y:¬(i:Int)<(ns.length:Int):=zb2 d;have a4:i=ns.length:=oM
 have HF:Hi (wr.ownsRow w.heap.size 3 1 (.slice (sA B 0) (ns.length+1) (ns.length+1)) (ns.length+1) (ptL ns)):=by
  have e:ptL ns=(DL (ns.length+1) (wd5 ns i)).toList:=by unfold DL ptL;simp only[List.toList_toArray];apply eF;intro x hx;rw[dJ]at hx;unfold wd5;rw[aG oM]
  refine⟨by unfold ptL;simp,.inr ⟨B,ns.length+1,_,rfl,O,K.o,aK _,by unfold maxLen;omega,by simp[DL],?_⟩⟩;rw[e,bE (by simp[DL])]
 clear a4;go_wp2_with fail;go_ret;exact⟨_,rfl,HF.o,X.o⟩
def yu5(h:¬p<ns.length):AC ns p=p+1:=by unfold AC;rw[cP oM];rfl
def zk7(v:Value)(ns:List Nd)(p:Nat)(w:World)(h:DF w v ns)(I:ns.length<=1000000)(L:p<=2000000) :
  Calls Tryz.prog 96 #[v,nI (p:Nat)] w λe w'=>e=.returned (nI (AC ns p:Nat))/\Ok w w':=by
 by_cases d:p<ns.length
 ·exact yu2 v ns p w h d I
 rw[yu5 d];obtain⟨_,K,cap,rfl,_,_,D⟩:=h;have J:IntKind.i64.wrap ((p:Int)+1)=((p+1:Nat):Int):=zb3 oM;have O:¬(p:Int)+1<(ns.length:Int):=oM;have o:¬p+1<ns.length:=oM;have G:decide (p+1<ns.length)=false:=dF_ o;clear D;go_enter Tryz.func96,Tryz.ntmps96;go_wp2_with fail;go_loopw [5] (λt wr=>t=nI ((p:Int)+1)/\wr=w) (λ_ _=>0)
 case atStart=>exact⟨rfl,rfl⟩
 obtain⟨rfl,rfl⟩:=hrel;have D:decide ((p:Int)+1<(ns.length:Int))=false:=dF_ oM;go_wp2_with fail
 go_region
 go_wp2_with fail;go_ret;exact⟨by simp,by repeat (first | exact Ok.refl _ | refine Below.drew ?_)⟩
def yk2(a b:List Ed):edL (a++b)=edL a++edL b:=by simp[edL]
def yk3(e:Ed):edL [e]=edV e:=by simp[edL]
def yk4:∀(es:List Ed),(edL es).length=es.length*6
 | []=>rfl
 | e::es=>by have:=yk4 es;unfold edL at this ⊢;rw[dK,bY,aA,this,aR];simp[edV];omega
def bgF(ns:List Nd)(x y z:Nat):Nat:=if x<y then ptF ns x else z
def kdA(ns:List Nd)(p:Nat):Int:=((ns[p]?).map Nd.kind).getD 0
def chE(ns:List Nd)(p next:Nat):List Ed :=
 [⟨ptF ns p,bgF ns (AC ns (p+1)+1) (AC ns (AC ns (p+1))) (if kdA ns p=8 then ptF ns p else next),5,p+1,true,decide (kdA ns p=8)⟩,
 ⟨ptF ns p,bgF ns (AC ns (AC ns (p+1))+1) (AC ns p) next,5,p+1,false,decide (kdA ns p=8)⟩]
def stE(ns:List Nd):Nat->Nat->Nat->Nat->List Ed
 | 0,_,_,_=>[]
 | f+1,p,en,fol =>
  if p<en then
   (if kdA ns p=7\/kdA ns p=8 then
    chE ns p (bgF ns (AC ns p) en fol)++(stE ns f (AC ns (p+1)+1) (AC ns (AC ns (p+1))) (if kdA ns p=8 then ptF ns p else bgF ns (AC ns p) en fol)++stE ns f (AC ns (AC ns (p+1))+1) (AC ns p) (bgF ns (AC ns p) en fol))
   else if 2<=kdA ns p/\kdA ns p<=6 then [⟨ptF ns p,bgF ns (AC ns p) en fol,kdA ns p-2,p,false,false⟩]
   else [])++stE ns f (AC ns p) en fol
  else []
def wo3:(Tryz.prog.info? 98).map (λi=>(i.zero,i.size,i.bytes))=some (some (.agg #[nI 0,nI 0,nI 0,nI 0,.bool false,.bool false]),6,40):=by kernel_rfl
structure EP where
 v:Value
 pv:Value
 ns:List Nd
 bt:Nat
 bp:Nat
 bl:Nat
 bb:Nat
 bs:Nat
 bc:Nat
 B:Nat
def ptr(b:Nat):Value:=pA b 0
structure EB(E:EP)(w:World)(es:List Ed):Prop where
 t:w.heap[E.bt]?=some (.cells #[E.v] 142 (0,0))
 p:w.heap[E.bp]?=some (.cells #[E.pv] 28 (0,0))
 b:w.heap[E.bb]?=some (.cells #[.func (.func 94) #[] #[ptr E.bp]] 193 (0,0))
 s:w.heap[E.bs]?=some (.cells #[.func (.func 97) #[] #[ptr E.bt,ptr E.bb,ptr E.bc,ptr E.bl,ptr E.bp]] 194 (0,0))
 c:w.heap[E.bc]?=some (.cells #[.func (.func 95) #[] #[ptr E.bt,ptr E.bp,ptr E.bb,ptr E.bl,ptr E.bs]] 195 (0,0))
 l:∃lv,w.heap[E.bl]?=some (.cells #[lv] 57 (0,0))/\w.ownsRow E.B 98 6 lv es.length (edL es)
 nd:DF w E.v E.ns
 pt:w.ownsRow 0 3 1 E.pv (E.ns.length+1) (ptL E.ns)
 st:EK w
structure wm5(E:EP):Prop where
 len:E.ns.length<=1000
 kind:∀n∈E.ns,0<=n.kind/\n.kind<=15
 lo:E.B<=E.bt/\E.B<=E.bp/\E.B<=E.bl/\E.B<=E.bb/\E.B<=E.bs/\E.B<=E.bc
 ne:E.bl≠E.bt/\E.bl≠E.bp/\E.bl≠E.bb/\E.bl≠E.bs/\E.bl≠E.bc
 nB:∀b o n c,E.v=.slice (sA b o) n c->E.ns≠[]->b<E.B
 pB:∀b,E.pv.ownBlock=some b->b<E.B
 sB:3<E.B
def EB.ok{E:EP}{w':World}(h:EB E w es)(d:Ok w w'):EB E w' es :=
 ⟨d.row' h.t,d.row' h.p,d.row' h.b,d.row' h.s,d.row' h.c,by obtain⟨D,o,G⟩:=h.l;exact⟨D,d.row' o,za1 G d⟩,h.nd.below d,za1 h.pt d,h.st.below d⟩
def EB.more{E:EP}{w':World}{es2:List Ed}{lv I:Value}(h:EB E w es)(R:wm5 E)(hl:w.heap[E.bl]?=some (.cells #[lv] 57 (0,0)))(ho:w.ownsRow E.B 98 6 lv es.length (edL es))(W:w.grownBy w' lv.ownBlock)(Y:w'.ownsRow E.B 98 6 I (es.length+es2.length) (edL es++edL es2)) :
  EB E (w'.setCell (aD E.bl 0) I) (es++es2)/\Below E.B w (w'.setCell (aD E.bl 0) I):=by
 have G:∀(b:Nat) (cs:Array Value) (t:TypeId),w.heap[b]?=some (.cells cs t (0,0))->t≠98->w'.heap[b]?=some (.cells cs t (0,0)):=by
  intro b cs t D d;refine(W.block b (za2 D) (λe=>?_)).trans D;rcases ho.2 with ⟨rfl,_⟩ | ⟨g,cap,Z,rfl,_,L,_⟩
  ·cases e
  have e':b=g:=aI e;subst e';have K:=L.symm.trans D
  injection K with K
  injection K with _ h3 _
  exact d h3.symm
 have a1:∀b,b<E.B->b<w.heap.size->w'.heap[b]?=w.heap[b]?:=by intro b D d;refine W.block b d (λe=>?_);have:=(ho.lt b e.symm).1;omega
 have set:∀(b:Nat) (cs:Array Value) (t:TypeId),b≠E.bl->w'.heap[b]?=some (.cells cs t (0,0))->(w'.setCell (aD E.bl 0) I).heap[b]?=some (.cells cs t (0,0)):=λb cs t D hh=>(Below.heap_setCell _ _ _ _ D).trans hh;obtain⟨n1,n2,n3,n4,n5⟩:=R.ne;obtain⟨l1,l2,l3,l4,l5,l6⟩:=R.lo;have X:=G _ _ _ hl dC
 have d:Below E.B w (w'.setCell (aD E.bl 0) I):=by refine Below.setCell ?_ (p:=⟨E.bl,0,none⟩) l3 _;exact⟨W.os,W.tape,W.output,W.size,λb D=>a1 b D (oH (za2 hl))⟩
 refine⟨⟨set _ _ _ (eL n1) (G _ _ _ h.t dC),set _ _ _ (eL n2) (G _ _ _ h.p dC),set _ _ _ (eL n3) (G _ _ _ h.b dC),set _ _ _ (eL n4) (G _ _ _ h.s dC),set _ _ _ (eL n5) (G _ _ _ h.c dC),⟨I,?_,?_⟩,?_,?_,?_⟩,d⟩
 ·have:=heap_setCell_same w' E.bl 0 _ _ I X
  rw[this];simp
 ·rw[aA,yk2]
  refine zb4 Y λb D=>Below.heap_setCell _ _ _ _ ?_;show b≠E.bl;intro e;subst e;rcases Y.2 with ⟨rfl,_⟩ | ⟨g,cap,Z,rfl,_,L,_⟩
  ·cases D
  have e':E.bl=g:=(aI D).symm;rw[<-e']at L;have K:=L.symm.trans X
  injection K with K
  injection K with _ h3 _
  exact absurd h3 dC
 ·obtain⟨a2,ao,cap,e,h1,K,k⟩:=h.nd
  refine⟨a2,ao,cap,e,h1,K,?_⟩;by_cases O:E.ns=[]
  ·exact .inl O
  obtain⟨b,o,e2,N⟩:=k.resolve_left O;subst e2;have D:=R.nB b o _ _ e O;exact .inr ⟨b,o,rfl,lL_ N.lt d.size,λi J=>(d.cell (p:=⟨b,o+i*6,none⟩) D).trans (N.c0 i J),λi J=>(d.cell (p:=⟨b,o+i*6+1,none⟩) D).trans (N.c1 i J),λi J=>(d.cell (p:=⟨b,o+i*6+2,none⟩) D).trans (N.c2 i J),λi J=>(d.cell (p:=⟨b,o+i*6+3,none⟩) D).trans (N.c3 i J),λi J=>(d.cell (p:=⟨b,o+i*6+4,none⟩) D).trans (N.c4 i J),λi J=>(d.cell (p:=⟨b,o+i*6+5,none⟩) D).trans (N.c5 i J)⟩
 ·exact zb4 h.pt λb D=>d.block b (R.pB b D)
 exact⟨lL_ h.st.lt d.size,λk o=>(d.cell (p:=⟨3,k*2,none⟩) R.sB).trans (h.st.made k o),λk o=>(d.cell (p:=⟨3,k*2+1,none⟩) R.sB).trans (h.st.op k o)⟩
def zN4(ns:List Nd)(h:i<=ns.length):(ptL ns)[i]?=some (nI (ptF ns i:Nat)):=by unfold ptL;rw[aX,cF oM];rfl
def EB.point{E:EP}(h:EB E w es):∃g cap,E.pv=.slice (sA g 0) (E.ns.length+1) cap/\g<w.heap.size/\∀i,i<=E.ns.length->w.cell? (aD g i)=some (nI (ptF E.ns i:Nat)):=by obtain⟨g,cap,e,_⟩:=h.pt.form oM;have d:=h.pt;rw[e]at d;refine⟨g,cap,e,(d.lt g rfl).2,λi o=>?_⟩;have:=d.cells (g:=g) rfl i _ (zN4 E.ns o);rw[zb7,aL]at this;exact this
def zm6(E:EP)(w:World)(es:List Ed)(x y z:Nat)(h:EB E w es)(K:x<y->x<=E.ns.length) :
  Calls Tryz.prog 94 #[nI (x:Nat),nI (y:Nat),nI (z:Nat),ptr E.bp] w λe w'=>e=.returned (nI (bgF E.ns x y z:Nat))/\Ok w w':=by
 unfold ptr;have X:w.cell? (aD E.bp 0)=some E.pv:=(cell_of_row _ _ 0 _ _ _ h.p).trans sI;have R:=za2 h.p;obtain⟨g,cap,e,Y,I⟩:=h.point;rw[e]at X;by_cases d:x<y
 ·have D:(x:Int)<(y:Int):=za5 d
  have L:=I x (K d);have W:(x:Int)<(E.ns.length:Int)+1:=oH (K d)
  have G:Hi (bgF E.ns x y z=ptF E.ns x):=by unfold Hi bgF;rw[aG d]
  obtain⟨q,J⟩:=qq (ptF E.ns x);rw[<-J]at L;have O:Hi (bgF E.ns x y z=q):=by unfold Hi;rw[G.o,J]
  clear I h J G e;go_enter Tryz.func94,Tryz.ntmps94;go_wp2_with fail;go_ret;exact⟨by rw[O.o];rfl,Ok.refl _⟩
 have D:¬(x:Int)<(y:Int):=zb2 d;have G:Hi (bgF E.ns x y z=z):=by unfold Hi bgF;rw[aC d]
 clear I h e;go_enter Tryz.func94,Tryz.ntmps94;go_wp2_with fail;go_ret;exact⟨by rw[G.o];rfl,Ok.refl _⟩
def zv4(d:Int):∀(l:List Nd) (i:Nat),i<FJ d l->∃n,l[i]?=some n/\d<n.depth
 | [],i,h=>by cases h
 | n::r,i,h=>by
  rw[FJ]at h
  split at h
  ·next hd =>
   cases i with
   | zero=>exact⟨n,rfl,hd⟩
   | succ i =>
    obtain⟨m,e,o⟩:=zv4 d r i oM;exact⟨m,by rw[bF];exact e,o⟩
  cases h
def zv5(d:Int):∀(l:List Nd) (k:Nat) (n:Nd),l[k]?=some n->n.depth<=d->FJ d l<=k
 | [],k,n,h,_=>by simp at h
 | m::r,0,n,h,hd=>by simp at h;subst h;rw[FJ,aC oM];exact aK _
 | m::r,k+1,n,h,hd=>by
  rw[bF]at h;have:=zv5 d r k n h hd
  rw[FJ];split<;>omega
def zv6(d:Int):∀(l:List Nd) (n:Nd),l[FJ d l]?=some n->n.depth<=d
 | [],n,h=>by simp[FJ]at h
 | m::r,n,h=>by
  rw[FJ]at h
  split at h
  ·next hd=>rw[bF]at h;exact zv6 d r n h
  next hd=>simp at h;subst h;omega
def zN5{a:Nat}(W:p<a)(J:a<AC ns p):AC ns a<=AC ns p:=by
 have O:a-(p+1)<FJ (AT ns p) (ns.drop (p+1)):=by unfold AC at J;omega
 obtain⟨R,G,K⟩:=zv4 _ _ _ O;rw[cQ,show p+1+(a-(p+1))=a by omega]at G;have L:AT ns a=R.depth:=by unfold AT;rw[G];rfl
 have d:a<ns.length:=(aE.1 G).1;by_cases I:AC ns p<ns.length
 ·have o:ns[AC ns p]?=some ns[AC ns p]:=gG_ I
  have D:(ns.drop (p+1))[FJ (AT ns p) (ns.drop (p+1))]?=some ns[AC ns p]:=by rw[cQ];unfold AC at o ⊢;exact o
  have Y:=zv6 _ _ _ D;have X:=zv5 (AT ns a) (ns.drop (a+1)) (AC ns p-(a+1)) ns[AC ns p] (by rw[cQ,show a+1+(AC ns p-(a+1))=AC ns p by omega];exact o) (by rw[L];omega);have:AC ns a=a+1+FJ (AT ns a) (ns.drop (a+1)):=rfl;omega
 have:=(ze6 d).2;omega
def wo4(ns:List Nd):Prop:=∀p,p<ns.length->kdA ns p=7\/kdA ns p=8->AC ns (p+1)<AC ns p
def yE9{x y z:Nat}(o:z<=1000)(d:ns.length<=1000):bgF ns x y z<=1000:=by
 unfold bgF;split
 ·exact aH (zq9 ns x) d
 exact o
def yk5(ns:List Nd)(p next:Nat):(chE ns p next).length=2:=rfl
def zk8{f en fol:Nat}(h:¬p<en):stE ns f p en fol=[]:=by
 cases f with
 | zero=>rfl
 | succ f=>rw[stE,aC h]
end Go.Proofs.YthoegkcpmgalbaaGreatDoor
