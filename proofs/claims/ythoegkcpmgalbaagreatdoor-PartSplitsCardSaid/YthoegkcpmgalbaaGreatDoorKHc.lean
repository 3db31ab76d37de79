import Derived.Test.YthoegkcpmgalbaaGreatDoorKHb
set_option linter.all false
set_option maxRecDepth 100000
namespace Go.Proofs.YthoegkcpmgalbaaGreatDoor
open Go.RowKit Go.Maps
variable{N:Nat}{W w:World}
def yc7(e:TypeId)(z:Value)(w:World)(B N:Nat)(d:B<=w.heap.size)(o:N<=1000000):(w.alloc (.cells (madeCells #[z] N) e)).ownsRow B e 1 (.slice (sA w.heap.size 0) N N) N (List.replicate N z):=by have h:=World.ownsRow_lit (base:=B) (e:=e) (size:=1) w (madeCells #[z] N) N d (by unfold maxLen;omega) (by rw[size_madeCells];omega);rw[toList_madeCells_one]at h;exact h
def wl4:(Tryz.prog.info? 111).map (·.size)=some 13:=by kernel_rfl
def ws5:(Tryz.prog.info? 28).map (λi=>(i.zero,i.size,i.bytes))=some (some (sZ),1,24):=by kernel_rfl
def ws6:(Tryz.prog.info? 4).map (λi=>(i.zero,i.size,i.bytes))=some (some (.bool false),1,1):=by kernel_rfl
def ws7:(Tryz.prog.info? 156).map (λi=>(i.zero,i.size,i.bytes))=some (some .nilFunc,1,8):=by kernel_rfl
def yz3(es:List Ed)(n:Int)(k:Nat):(EZ es n k).length<=es.length:=by obtain⟨l,h⟩:=zx0 (es:=es) (n:=n) k;have d:=zr0 es n;rw[h,aA]at d;omega
def za8{ops:Array Oper}{D:List Oper}{o:Oper}{a:Act}{Q:Exit->Act->World->Prop}(J:o.guard=none)(I:TypeId)(x y:Operand)(ho:o.op=.store I x y)(g:Nat)(t:TypeId)(G d:Array Value)
  (R:a.eval x=pA g 0) (hy:a.eval y=.agg d) (O:w.heap[g]?=some (.cells G t (0,0))) (Z:(Tryz.prog.info? I).map (·.size)=some d.size) (Y:G.size=d.size) (X:d.all (·.oneCell')=true) (h:wpList Tryz.prog ops Q D (a.put o.dst undef) (w.setRow g d)):wpList Tryz.prog ops Q (o::D) a w :=
 wpList_plain J λK L=>by unfold Oper.wp execOp;simp only[ho,R,hy,Instr.storeAt,Instr.sureAddr,Sem.run_bind,Sem.run_pure,Result.andThen_ok,run_storeVar_row w g t I G d O Z Y X];exact L _ _ h
def CY{g:Nat}{a0 o d I G D:Value}{t:TypeId}(h:w.heap[g]?=some (.cells #[a0,o,d,I,G,D] t (0,0))):w.cell? (aD g 0)=some a0/\w.cell? (aD g 1)=some o/\w.cell? (aD g 2)=some d/\w.cell? (aD g 3)=some I/\w.cell? (aD g 4)=some G/\w.cell? (aD g 5)=some D/\g<w.heap.size :=
 ⟨(cell_of_row _ _ 0 _ _ _ h).trans rfl,(cell_of_row _ _ 1 _ _ _ h).trans rfl,(cell_of_row _ _ 2 _ _ _ h).trans rfl,(cell_of_row _ _ 3 _ _ _ h).trans rfl,(cell_of_row _ _ 4 _ _ _ h).trans rfl,(cell_of_row _ _ 5 _ _ _ h).trans rfl,za2 h⟩
def CH{g:Nat}{a0 G o L K J d I D:Value}{t:TypeId}(h:w.heap[g]?=some (.cells #[a0,G,o,L,K,J,d,I,D] t (0,0))) :
  w.cell? (aD g 0)=some a0/\w.cell? (aD g 1)=some G/\w.cell? (aD g 2)=some o/\w.cell? (aD g 3)=some L/\w.cell? (aD g 4)=some K/\w.cell? (aD g 5)=some J/\w.cell? (aD g 6)=some d/\w.cell? (aD g 7)=some I/\w.cell? (aD g 8)=some D/\g<w.heap.size :=
 ⟨(cell_of_row _ _ 0 _ _ _ h).trans rfl,(cell_of_row _ _ 1 _ _ _ h).trans rfl,(cell_of_row _ _ 2 _ _ _ h).trans rfl,(cell_of_row _ _ 3 _ _ _ h).trans rfl,(cell_of_row _ _ 4 _ _ _ h).trans rfl,(cell_of_row _ _ 5 _ _ _ h).trans rfl,(cell_of_row _ _ 6 _ _ _ h).trans rfl,(cell_of_row _ _ 7 _ _ _ h).trans rfl,(cell_of_row _ _ 8 _ _ _ h).trans rfl,za2 h⟩
structure N0(W u:World)(a:Nat->Value)(N cap:Nat)(s5:Value):Prop where
 at_:∃gq go gg:Nat,s5=pA gq 0/\u.heap[gq]?=some (.cells #[a 0,a 1,a 2,a 3,a 4,a 5,a 6,a 7,a 8,nI (cap:Nat),sZ,.slice (sA go 0) N N,.slice (sA gg 0) N N] 111 (0,0))/\u.ownsRow W.heap.size 28 1 (.slice (sA go 0) N N) N (List.replicate N (sZ))/\u.ownsRow W.heap.size 4 1 (.slice (sA gg 0) N N) N (List.replicate N (.bool false))/\W.heap.size<=gq/\W.heap.size<=go/\W.heap.size<=gg
 ok:Ok W u
def NPI.start{u:World}{a:Nat->Value}{cap:Nat}{o:Value}(h:N0 W u a N cap o)(es:List Ed)(H U:Int):∃Q:wh4,o=pA Q.gq 0/\Q.N=N/\Q.cap=cap/\Q.a=a/\NPI W Q es H U u 0 0 [] (sZ) (List.replicate N (sZ)):=by
 obtain⟨G,J,R,X,L,h3,I,Z,h6,O⟩:=h.at_;refine⟨⟨G,J,R,N,cap,a⟩,X,rfl,rfl,rfl,h.ok,⟨Z,h6,O⟩,L,World.ownsRow_nil _ _ _ _,λi e hi=>absurd hi (eA _),h3,λn K=>⟨sZ,?_,?_⟩,λn m v Y b d hu D=>?_,λi v b n Y d=>by simp at d,λi v d=>by simp at d,I⟩
 ·rw[dS,aG K]
 ·have e:DC es (n:Int) 0=[]:=by unfold DC;rw[zs9];rfl
  rw[e];exact World.ownsRow_nil _ _ _ _
 rw[dS]at d
 split at d
 ·injection d with d
  subst d;cases D
 cases d
structure PO(w:World)(B:Nat)(a:Nat->Value)(N gg:Nat)(H U:Int)(cap:Nat)(es:List Ed)(mg:List Int):Prop where
 nodes:a 6=nI (N:Nat)
 sls:∀i,i<6->∃ao n c,a i=.slice ao n c
 exi:∃x,a 7=nI x
 edges:w.ownsRow 0 98 6 (a 8) es.length (edL es)
 capv:a 9=nI (cap:Nat)
 steps:∃sv:List Value,w.ownsRow B 156 1 (a 10) es.length sv/\∀(i:Nat) (e:Ed),es[i]?=some e->∃v,sv[i]?=some v/\EM w v H U e i
 outs:∃ov:List Value,w.ownsRow B 28 1 (a 11) N ov/\∀n,n<N->∃v,ov[n]?=some v/\w.ownsRow B 3 1 v (wh3 es (n:Int)).length (ilL (wh3 es (n:Int)))
 mrg:a 12=.slice (sA gg 0) N N/\w.ownsRow B 4 1 (.slice (sA gg 0) N N) N (mgB N (DR cap H U es mg))
def zp6:∀{es:List Ed} {i:Nat} {e:Ed},es[i]?=some e->∀(j:Nat) (u:Value),(edV e)[j]?=some u->(edL es)[i*6+j]?=some u
 | [],i,e,h,_,_,_=>by simp at h
 | d::es,i,e,h,j,u,hj=>by
  have q:edL (d::es)=edV d++edL es:=by simp[edL]
  have o:(edV d).length=6:=rfl
  cases i with
  | zero =>
   simp only[bR,cD]at h;subst h;have:=(aE.1 hj).1;rw[q,Nat.zero_mul,aL,aQ this];exact hj
  | succ i =>
   simp only[bF]at h;rw[q,bC oM,o,show(i+1)*6+j-6=i*6+j by omega];exact zp6 h j u hj
def yo6(es:List Ed):∀u∈edL es,u.oneCell'=true:=λu o=>by
 obtain⟨l,D,d⟩:=fR.1 o;obtain⟨e,_,rfl⟩:=bX.1 D;simp only[edV,bJ,dE,fL]at d
 rcases d with rfl | rfl | rfl | rfl | rfl | rfl<;>rfl
def PO.pi{B:Nat}{a:Nat->Value}{gg:Nat}{H U:Int}{cap:Nat}{es:List Ed}{O:List Int}(h:PO w B a N gg H U cap es O)(hU:U<=1000):PI w a N (DR cap H U es O):=by
 obtain⟨sv,Z,X⟩:=h.steps;obtain⟨R,h3,h4⟩:=h.outs;have K:∀u∈mgB N (DR cap H U es O),u.oneCell'=true:=λu I=>by obtain⟨n,_,rfl⟩:=bX.1 I;rfl
 have J:∀n,n<N->∃v,R[n]?=some v/\SL w 1 v (CD es (n:Int)).length (ilL (wh3 es (n:Int))):=λn hn=>by
  obtain⟨v,d,o⟩:=h4 n hn;have D:=zt1 o (zJ6 _) dC;have G:(wh3 es (n:Int)).length=(CD es (n:Int)).length:=by unfold wh3;rw[aM]
  rw[G]at D;exact⟨v,d,D⟩
 refine⟨h.nodes,zt1 h.edges (yo6 es) (by decide),h.capv,⟨sv,zt1 Z (λu I=>?_) (by decide),λi e he=>by obtain⟨v,d,o⟩:=X i e he;exact⟨v,d,o.v hU⟩⟩,⟨R,zt1 h3 (λu I=>?_) (by decide),J⟩,by rw[h.mrg.1];exact zt1 h.mrg.2 K (by decide),h.sls,h.exi⟩
 ·obtain⟨i,G⟩:=bW.1 I
  have L:i<es.length:=by have:=(aE.1 G).1;have:=Z.1;omega
  obtain⟨v,d,o⟩:=X i _ (gG_ L);rw[G]at d
  injection d with d
  subst d;obtain⟨a1,Y,D⟩:=o.form;rw[D];rfl
 obtain⟨i,G⟩:=bW.1 I;have L:i<N:=by have:=(aE.1 G).1;have:=h3.1;omega
 obtain⟨v,d,o⟩:=h4 i L;rw[G]at d
 injection d with d
 subst d;obtain⟨Y,c,D⟩:=za0 o;rw[D];rfl
def zi8{D:World}(h:Ok W D)(e:TypeId)(z:Value)(d:N<=1000000):∃(E:World) (g:Nat),(D.alloc (.cells (madeCells #[z] N) e)=E/\D.heap.size=g)/\Ok D E/\Ok W E/\Hi (E.ownsRow W.heap.size e 1 (.slice (sA g 0) N N) N (List.replicate N z))/\Hi (D.heap.size<=g/\g<E.heap.size) :=
 ⟨_,_,⟨rfl,rfl⟩,(Ok.refl D).alloc _,h.alloc _,yc7 e z D W.heap.size N h.le d,aK _,by simp⟩
def zt6{D:World}(h:Ok W D):∃(E:World) (g:Nat),(D.alloc (.cells #[sZ,sZ,sZ,sZ,sZ,sZ,nI 0,nI 0,sZ,nI 0,sZ,sZ,sZ] 111)=E/\D.heap.size=g)/\Ok D E/\Ok W E/\Hi (E.heap[g]?=some (.cells #[sZ,sZ,sZ,sZ,sZ,sZ,nI 0,nI 0,sZ,nI 0,sZ,sZ,sZ] 111 (0,0)))/\Hi (D.heap.size<=g/\g<E.heap.size):=yc1 h _ _
def wr5(w:World)(N:Nat)(H U:Int)(cap:Nat)(es:List Ed)(e:Ending)(w':World):Prop:=∃(b:Nat->Value) (gg:Nat),e=.returned (.agg #[b 0,b 1,b 2,b 3,b 4,b 5,b 6,b 7,b 8,b 9,b 10,b 11,b 12])/\PO w' w.heap.size b N gg H U cap es []/\Ok w w'
set_option maxHeartbeats 8000000 in
def zK3(a:Nat->Value)(N cap:Nat)(H U c3 c4 c5 c7 a3:Int)(tz:Option Addr)(tn tc:Nat)(es:List Ed)(w:World)(I:a 6=nI (N:Nat))(D:∀i,i<6->∃ao n c,a i=.slice ao n c)(L:∃x,a 7=nI x)(he:w.ownsRow 0 98 6 (a 8) es.length (edL es))(G:N<=1000/\es.length<=5000)(Z:∀e∈es,0<=e.from'/\e.from'<(N:Int)) :
  Calls Tryz.prog 39 #[.agg #[a 0,a 1,a 2,a 3,a 4,a 5,a 6,a 7,a 8],.agg #[nI H,nI U,nI (cap:Nat),nI c3,nI c4,nI c5,.slice tz tn tc,nI c7,nI a3]] w λe w'=>wr5 w N H U cap es e w':=by
 obtain⟨g0,n0,k0,O⟩:=D 0 oM;obtain⟨g1,n1,k1,J⟩:=D 1 oM;obtain⟨g2,n2,k2,X⟩:=D 2 oM;obtain⟨g3,n3,k3,K⟩:=D 3 oM;obtain⟨g4,n4,k4,R⟩:=D 4 oM;obtain⟨g5,n5,k5,Y⟩:=D 5 oM;obtain⟨x7,d⟩:=L;obtain⟨o8,c8,e8⟩:=za0 he;have HE:=hid he;have HB:=hid G;have f1:=hid Z;have l0:Hi (a 6=nI (N:Nat)/\(∀i,i<6->∃ao n c,a i=.slice ao n c)/\∃x,a 7=nI x):=⟨I,D,⟨x7,d⟩⟩;have HA:Hi (a 0=.slice g0 n0 k0/\a 1=.slice g1 n1 k1/\a 2=.slice g2 n2 k2/\a 3=.slice g3 n3 k3/\a 4=.slice g4 n4 k4/\a 5=.slice g5 n5 k5/\a 6=nI (N:Nat)/\a 7=nI x7/\a 8=.slice o8 es.length c8):=⟨O,J,X,K,R,Y,I,d,e8⟩;rw[O,J,X,K,R,Y,d,I,e8];clear O J X K R Y d I e8 D he G Z;have a1:Hi (N<=1000000):=by have:=HB.o.1;unfold Hi;omega
 have f5:=run_make_row' (P:=Tryz.prog) 85 28 (sZ) 24 Tryz.underlying85 ws5 rfl .i64 .i64 N (oH HB.o.1) (oH HB.o.1);have i0:=run_make_row' (P:=Tryz.prog) 109 4 (.bool false) 1 Tryz.underlying109 ws6 rfl .i64 .i64 N (oH HB.o.1) (oH HB.o.1);go_enter Tryz.func39,Tryz.ntmps39
 go_upto_region 1 with (fail)
 obtain⟨W,d⟩:=qq (((w.alloc (Obj.cells #[.slice g0 n0 k0,.slice g1 n1 k1,.slice g2 n2 k2,.slice g3 n3 k3,.slice g4 n4 k4,.slice g5 n5 k5,nI (N:Nat),nI x7,.slice o8 es.length c8] 59)).alloc (Obj.cells #[nI H,nI U,nI (cap:Nat),nI c3,nI c4,nI c5,.slice tz tn tc,nI c7,nI a3] 24)).alloc (Obj.cells #[sZ,sZ,sZ,sZ,sZ,sZ,nI 0,nI 0,sZ,nI 0,sZ,sZ,sZ] 111));obtain⟨gG,J⟩:=qq (w.heap.size);obtain⟨gC,D⟩:=qq (w.heap.size+1);obtain⟨gR,b7⟩:=qq (w.heap.size+1+1);rw[<-d,<-b7,<-D,<-J];have HK:Hi (Ok w W):=by rw[d];exact(((Ok.refl w).alloc _).alloc _).alloc _
 have b6:Hi (W.heap[gG]?=some (.cells #[Value.slice g0 n0 k0,Value.slice g1 n1 k1,Value.slice g2 n2 k2,Value.slice g3 n3 k3,Value.slice g4 n4 k4,Value.slice g5 n5 k5,nI (N:Nat),nI x7,Value.slice o8 es.length c8] 59 (0,0))):=by rw[d,J];exact jj
 have f8:Hi (W.heap[gC]?=some (.cells #[nI H,nI U,nI (cap:Nat),nI c3,nI c4,nI c5,Value.slice tz tn tc,nI c7,nI a3] 24 (0,0))):=by rw[d,D];exact jj
 have j9:Hi (W.heap[gR]?=some (.cells #[sZ,sZ,sZ,sZ,sZ,sZ,nI 0,nI 0,sZ,nI 0,sZ,sZ,sZ] 111 (0,0))):=by rw[d,b7];exact jj
 have HG:Hi (w.heap.size<=gG/\w.heap.size<=gC/\w.heap.size<=gR/\gG<W.heap.size/\gC<W.heap.size/\gR<W.heap.size):=by unfold Hi;rw[d];simp;omega
 clear d J D b7
 go_cut [5] from 8 to 17 (λs5 u=>Hi (N0 W u a N cap s5))
 case first =>
  refine wp_region_held_drew (S:=λw'=>Ok W w') kR (Below.drew (Ok.refl _)) (λO=>?_);obtain⟨D,hD⟩:=qq (W.drew);rw[<-hD]at O ⊢;clear hD;refine tH 0 (.agg #[.slice g0 n0 k0,.slice g1 n1 k1,.slice g2 n2 k2,.slice g3 n3 k3,.slice g4 n4 k4,.slice g5 n5 k5,nI (N:Nat),nI x7,.slice o8 es.length c8]) ?_ O ?_
  ·intro w' R;obtain⟨q0,q1,q2,q3,q4,q5,q6,q7,q8,q9⟩:=CH (Ok.row' R b6.o);clear R;go_simp;try with_reducible rfl
  (try simp only[pu]);refine tJ 1 (pA gC 2) O ?_;(try simp only[pu]);refine tH 2 (nI (cap:Nat)) ?_ O ?_
  ·intro w' R;obtain⟨q0,q1,q2,q3,q4,q5,q6,q7,q8,q9⟩:=CH (Ok.row' R f8.o);clear R;go_simp;try with_reducible rfl
  (try simp only[pu]);refine tJ 3 (pA gG 6) O ?_;(try simp only[pu]);refine tH 4 (nI (N:Nat)) ?_ O ?_
  ·intro w' R;obtain⟨q0,q1,q2,q3,q4,q5,q6,q7,q8,q9⟩:=CH (Ok.row' R b6.o);clear R;go_simp;try with_reducible rfl
  (try simp only[pu]);refine tJ 6 (pA gG 6) O ?_;(try simp only[pu]);refine tH 7 (nI (N:Nat)) ?_ O ?_
  ·intro w' R;obtain⟨q0,q1,q2,q3,q4,q5,q6,q7,q8,q9⟩:=CH (Ok.row' R b6.o);clear R;go_simp;try with_reducible rfl
  (try simp only[pu]);have k8:Hi (W.heap.size<=D.heap.size):=O.le;refine wpAnyH_ready (rs:=[5,8,10]) kR sI ?_;refine AllReadyH.cons rfl (λK d=>?_) (AllReadyH.cons rfl (λK d=>?_) (AllReadyH.cons rfl (λK d=>?_) AllReadyH.nil));go_simp;obtain⟨X1,go,I,L,G,Y,b1⟩:=zi8 O 28 (sZ) a1.o;rw[I.1,I.2];refine d.out _ _ G (λO=>?_);clear d K I G L;(try simp only[pu]);refine wpAnyH_ready (rs:=[8,10]) kR sI ?_;refine AllReadyH.cons rfl (λK d=>?_) (AllReadyH.cons rfl (λK d=>?_) AllReadyH.nil);go_simp;obtain⟨X2,gg,I,L,G,Z,b3⟩:=zi8 O 4 (.bool false) a1.o;rw[I.1,I.2];replace Y:Hi _:=za1 Y.o L;refine d.out _ _ G (λO=>?_);clear d K I G L;(try simp only[pu]);refine tJ 9 (.agg #[.slice g0 n0 k0,.slice g1 n1 k1,.slice g2 n2 k2,.slice g3 n3 k3,.slice g4 n4 k4,.slice g5 n5 k5,nI (N:Nat),nI x7,.slice o8 es.length c8,nI (cap:Nat),sZ,.slice (sA go 0) N N,.slice (sA gg 0) N N]) O ?_;(try simp only[pu]);refine wpAnyH_ready (rs:=[10]) kR sI ?_;refine AllReadyH.cons rfl (λK d=>?_) AllReadyH.nil;go_simp;obtain⟨X3,gq,I,L,G,X,b4⟩:=zt6 O;rw[I.1,I.2];replace Y:Hi _:=za1 Y.o L;replace Z:Hi _:=za1 Z.o L;refine d.out _ _ G (λO=>?_);clear d K I G L;(try simp only[pu]);rotate_left;go_simp;obtain⟨X2,gq,I,L,G,X,b4⟩:=zt6 O;rw[I.1,I.2];replace Y:Hi _:=za1 Y.o L;refine d.out _ _ G (λO=>?_);clear d K I G L;(try simp only[pu]);refine wpAnyH_ready (rs:=[8]) kR sI ?_;refine AllReadyH.cons rfl (λK d=>?_) AllReadyH.nil;go_simp;obtain⟨X3,gg,I,L,G,Z,b3⟩:=zi8 O 4 (.bool false) a1.o;rw[I.1,I.2];replace Y:Hi _:=za1 Y.o L;replace X:Hi _:=Ok.row' L X.o;refine d.out _ _ G (λO=>?_);clear d K I G L;(try simp only[pu]);refine tJ 9 (.agg #[.slice g0 n0 k0,.slice g1 n1 k1,.slice g2 n2 k2,.slice g3 n3 k3,.slice g4 n4 k4,.slice g5 n5 k5,nI (N:Nat),nI x7,.slice o8 es.length c8,nI (cap:Nat),sZ,.slice (sA go 0) N N,.slice (sA gg 0) N N]) O ?_;(try simp only[pu]);rotate_left;go_simp;obtain⟨X1,gg,I,L,G,Z,b3⟩:=zi8 O 4 (.bool false) a1.o;rw[I.1,I.2];refine d.out _ _ G (λO=>?_);clear d K I G L;(try simp only[pu]);refine wpAnyH_ready (rs:=[5,10]) kR sI ?_;refine AllReadyH.cons rfl (λK d=>?_) (AllReadyH.cons rfl (λK d=>?_) AllReadyH.nil);go_simp;obtain⟨X2,go,I,L,G,Y,b1⟩:=zi8 O 28 (sZ) a1.o;rw[I.1,I.2];replace Z:Hi _:=za1 Z.o L;refine d.out _ _ G (λO=>?_);clear d K I G L;(try simp only[pu]);refine tJ 9 (.agg #[.slice g0 n0 k0,.slice g1 n1 k1,.slice g2 n2 k2,.slice g3 n3 k3,.slice g4 n4 k4,.slice g5 n5 k5,nI (N:Nat),nI x7,.slice o8 es.length c8,nI (cap:Nat),sZ,.slice (sA go 0) N N,.slice (sA gg 0) N N]) O ?_;(try simp only[pu]);refine wpAnyH_ready (rs:=[10]) kR sI ?_;refine AllReadyH.cons rfl (λK d=>?_) AllReadyH.nil;go_simp;obtain⟨X3,gq,I,L,G,X,b4⟩:=zt6 O;rw[I.1,I.2];replace Z:Hi _:=za1 Z.o L;replace Y:Hi _:=za1 Y.o L;refine d.out _ _ G (λO=>?_);clear d K I G L;(try simp only[pu]);rotate_left;go_simp;obtain⟨X2,gq,I,L,G,X,b4⟩:=zt6 O;rw[I.1,I.2];replace Z:Hi _:=za1 Z.o L;refine d.out _ _ G (λO=>?_);clear d K I G L;(try simp only[pu]);refine wpAnyH_ready (rs:=[5]) kR sI ?_;refine AllReadyH.cons rfl (λK d=>?_) AllReadyH.nil;go_simp;obtain⟨X3,go,I,L,G,Y,b1⟩:=zi8 O 28 (sZ) a1.o;rw[I.1,I.2];replace Z:Hi _:=za1 Z.o L;replace X:Hi _:=Ok.row' L X.o;refine d.out _ _ G (λO=>?_);clear d K I G L;(try simp only[pu]);refine tJ 9 (.agg #[.slice g0 n0 k0,.slice g1 n1 k1,.slice g2 n2 k2,.slice g3 n3 k3,.slice g4 n4 k4,.slice g5 n5 k5,nI (N:Nat),nI x7,.slice o8 es.length c8,nI (cap:Nat),sZ,.slice (sA go 0) N N,.slice (sA gg 0) N N]) O ?_;(try simp only[pu]);rotate_left;go_simp;obtain⟨X1,gq,I,L,G,X,b4⟩:=zt6 O;rw[I.1,I.2];refine d.out _ _ G (λO=>?_);clear d K I G L;(try simp only[pu]);refine wpAnyH_ready (rs:=[5,8]) kR sI ?_;refine AllReadyH.cons rfl (λK d=>?_) (AllReadyH.cons rfl (λK d=>?_) AllReadyH.nil);go_simp;obtain⟨X2,go,I,L,G,Y,b1⟩:=zi8 O 28 (sZ) a1.o;rw[I.1,I.2];replace X:Hi _:=Ok.row' L X.o;refine d.out _ _ G (λO=>?_);clear d K I G L;(try simp only[pu]);refine wpAnyH_ready (rs:=[8]) kR sI ?_;refine AllReadyH.cons rfl (λK d=>?_) AllReadyH.nil;go_simp;obtain⟨X3,gg,I,L,G,Z,b3⟩:=zi8 O 4 (.bool false) a1.o;rw[I.1,I.2];replace X:Hi _:=Ok.row' L X.o;replace Y:Hi _:=za1 Y.o L;refine d.out _ _ G (λO=>?_);clear d K I G L;(try simp only[pu]);refine tJ 9 (.agg #[.slice g0 n0 k0,.slice g1 n1 k1,.slice g2 n2 k2,.slice g3 n3 k3,.slice g4 n4 k4,.slice g5 n5 k5,nI (N:Nat),nI x7,.slice o8 es.length c8,nI (cap:Nat),sZ,.slice (sA go 0) N N,.slice (sA gg 0) N N]) O ?_;(try simp only[pu]);rotate_left;go_simp;obtain⟨X2,gg,I,L,G,Z,b3⟩:=zi8 O 4 (.bool false) a1.o;rw[I.1,I.2];replace X:Hi _:=Ok.row' L X.o;refine d.out _ _ G (λO=>?_);clear d K I G L;(try simp only[pu]);refine wpAnyH_ready (rs:=[5]) kR sI ?_;refine AllReadyH.cons rfl (λK d=>?_) AllReadyH.nil;go_simp;obtain⟨X3,go,I,L,G,Y,b1⟩:=zi8 O 28 (sZ) a1.o;rw[I.1,I.2];replace X:Hi _:=Ok.row' L X.o;replace Z:Hi _:=za1 Z.o L;refine d.out _ _ G (λO=>?_);clear d K I G L;(try simp only[pu]);refine tJ 9 (.agg #[.slice g0 n0 k0,.slice g1 n1 k1,.slice g2 n2 k2,.slice g3 n3 k3,.slice g4 n4 k4,.slice g5 n5 k5,nI (N:Nat),nI x7,.slice o8 es.length c8,nI (cap:Nat),sZ,.slice (sA go 0) N N,.slice (sA gg 0) N N]) O ?_;(try simp only[pu]);rotate_left
  all_goals
   refine wpAnyH_ready (rs:=[11]) kR sI ?_;refine AllReadyH.cons rfl (λK d=>?_) AllReadyH.nil;have hq:W.heap.size<=gq/\W.heap.size<=go/\W.heap.size<=gg/\go≠gq/\gg≠gq:=by have J:=b4.o;have h2:=b1.o;have h3:=b3.o;have h4:=k8.o;omega
   refine zg9 rfl 111 _ _ rfl gq 111 _ (#[.slice g0 n0 k0,.slice g1 n1 k1,.slice g2 n2 k2,.slice g3 n3 k3,.slice g4 n4 k4,.slice g5 n5 k5,nI (N:Nat),nI x7,.slice o8 es.length c8,nI (cap:Nat),sZ,.slice (sA go 0) N N,.slice (sA gg 0) N N]) (by rfl) (by rfl) X.o wl4 rfl (by simp[Value.oneCell']) rfl ?_;refine d.out _ _ (zd0 O hq.1 _) (λj8=>?_);clear d K;refine wpAnyH_done kR ?_ _;have Hq:Hi (W.heap.size<=gq/\W.heap.size<=go/\W.heap.size<=gg/\go≠gq/\gg≠gq):=hq;clear hq;go_wp2_with fail
   go_meet
   obtain⟨h0,J,h2,h3,h4,h5,h6,h7,h8⟩:=HA.o
   case rel=>exact⟨⟨gq,go,gg,rfl,by rw[h0,J,h2,h3,h4,h5,h6,h7,h8];exact setRow_heap _ _ _ _ _ _ X.o,zb4 Y.o (λb G=>setRow_other _ _ _ _ (by cases G;exact Hq.o.2.2.2.1)),zb4 Z.o (λb G=>setRow_other _ _ _ _ (by cases G;exact Hq.o.2.2.2.2)),Hq.o.1,Hq.o.2.1,Hq.o.2.2.1⟩,j8⟩
 obtain⟨Q,j1,X,Z,Y,O⟩:=NPI.start hcut.o es H U;subst j1;obtain⟨u,hu⟩:=qq (wc);rw[<-hu]at O ⊢;have HQ:Hi (Q.N=N/\Q.cap=cap/\Q.a=a):=⟨X,Z,Y⟩;have D:Hi (NPI W Q es H U u 0 0 [] (sZ) (List.replicate N (sZ))):=O;clear hu X Z Y O hcut f5 i0;obtain⟨q0,q1,q2,q3,q4,q5,q6,q7,q8,q9⟩:=CH (Ok.row' D.o.ok b6.o);go_wp2_with fail;go_loopw [21] (λc1 wr=>∃k:Nat,c1=nI (k:Nat)/\k<=es.length/\Hi (∃sv i4 ov,NPI W Q es H U wr k k sv i4 ov)) (λc1 _=>((es.length:Int)-intOf c1).toNat)
 case atStart=>exact⟨0,rfl,zL_ _,⟨_,_,_,D.o⟩⟩
 clear D q0 q1 q2 q3 q4 q5 q6 q7 q8 q9;obtain⟨k,rfl,hk,O⟩:=hrel;obtain⟨sv,i4,ov,D⟩:=O.o;obtain⟨so,sc,rfl⟩:=za0 D.st;have HN:Hi (NPI W Q es H U wr k k sv (.slice so k sc) ov):=D;clear D O;by_cases a9:k<es.length
 ·obtain⟨e,he⟩:∃e,es[k]?=some e:=⟨_,gG_ a9⟩
  obtain⟨n,i2,X⟩:∃n:Nat,e.from'=(n:Int)/\n<N:=⟨e.from'.toNat,oH (f1.o e (mG_ he)),oH (f1.o e (mG_ he))⟩;obtain⟨ef,et,eo,ep,eb,el⟩:=e;simp only at i2;subst i2;have f3:Hi (es[k]?=some (⟨(n:Int),et,eo,ep,eb,el⟩:Ed)):=he;have d9:Hi (n<N):=X;have O:=HE.o;rw[HA.o.2.2.2.2.2.2.2.2]at O;obtain⟨be,ce,e1,_⟩:=O.form oM
  injection e1 with e2 e3 e4
  subst e2;clear e3 e4
  have D:∀j u,(edV (⟨(n:Int),et,eo,ep,eb,el⟩:Ed))[j]?=some u->wr.cell? ⟨be,k*6+j,none⟩=some u:=λj u hj=>by have J:=O.cells (g:=be) rfl (k*6+j) u (zp6 he j u hj);rw[zb7,aL]at J;exact(HK.o.step HN.o.ok).cell (p:=⟨be,k*6+j,none⟩) (O.lt be rfl).2 J
  have Z:wr.cell? ⟨be,k*6,none⟩=_:=D 0 _ rfl;have r1:=D 1 _ rfl;have r2:=D 2 _ rfl;have r3:=D 3 _ rfl;have r4:=D 4 _ rfl;have r5:=D 5 _ rfl;have Y:be<wr.heap.size:=lL_ (O.lt be rfl).2 (HK.o.step HN.o.ok).le;have i8:(k:Int)<(es.length:Int):=za5 a9;have kw:IntKind.i64.wrap ((k:Int)+1)=((k+1:Nat):Int):=zb3 (oH HB.o.2);clear D he O X
  go_upto_region 5 with (fail)
  obtain⟨V,O⟩:=qq (wr.alloc (Obj.cells #[nI (n:Nat),nI et,nI eo,nI ep,.bool eb,.bool el] 98));obtain⟨g7,D⟩:=qq (wr.heap.size);rw[<-O,<-D];have j5:Hi (Ok wr V):=by rw[O];exact(Ok.refl wr).alloc _
  have f7:Hi (V.heap[g7]?=some (.cells #[nI (n:Nat),nI et,nI eo,nI ep,Value.bool eb,Value.bool el] 98 (0,0))):=by rw[O,D];exact jj
  have b9:Hi _:=HN.o.step j5.o;have f9:Hi _:=Ok.row' b9.o.ok f8.o;clear O D Z r1 r2 r3 r4 r5 Y;have O:(V.drew.heap[Q.gq]?=some (.cells (Q.row (.slice so k sc)) 111 (0,0))/\V.drew.heap[g7]?=some (.cells #[nI (n:Nat),nI et,nI eo,nI ep,Value.bool eb,Value.bool el] 98 (0,0))/\V.drew.heap[gC]?=some (.cells #[nI H,nI U,nI (cap:Nat),nI c3,nI c4,nI c5,Value.slice tz tn tc,nI c7,nI a3] 24 (0,0))):=⟨b9.o.row,f7.o,f9.o⟩;refine zd5 (λY=>(Y.heap[Q.gq]?=some (.cells (Q.row (.slice so k sc)) 111 (0,0))/\Y.heap[g7]?=some (.cells #[nI (n:Nat),nI et,nI eo,nI ep,Value.bool eb,Value.bool el] 98 (0,0))/\Y.heap[gC]?=some (.cells #[nI H,nI U,nI (cap:Nat),nI c3,nI c4,nI c5,Value.slice tz tn tc,nI c7,nI a3] 24 (0,0)))) 9 kR ?_;refine tK 0 (pA Q.gq 10) O ?_;simp only[pu];refine tL 1 (.slice so k sc) O ?_ ?_
  ·intro w' R;have z1:w'.cell? (aD Q.gq 10)=some (.slice so k sc):=(cell_of_row _ _ 10 _ _ _ R.1).trans rfl;have z2:=za2 R.1;clear R;go_simp;try with_reducible rfl
  simp only[pu];refine tL 2 (.agg #[nI (n:Nat),nI et,nI eo,nI ep,Value.bool eb,Value.bool el]) O ?_ ?_
  ·intro w' R;obtain⟨z0,z1,z2,z3,z4,z5,z6⟩:=CY R.2.1;clear R;go_simp;try with_reducible rfl
  simp only[pu];refine tK 3 (nI (k:Nat)) O ?_;simp only[pu];refine tL 4 (.agg #[nI H,nI U,nI (cap:Nat),nI c3,nI c4,nI c5,Value.slice tz tn tc,nI c7,nI a3]) O ?_ ?_
  ·intro w' R;obtain⟨z0,z1,z2,z3,z4,z5,z6,X,D,Z⟩:=CH R.2.2;clear R;go_simp;try with_reducible rfl
  simp only[pu];refine zb0 (i:=5) kR rfl (λK d=>?_);go_simp;refine(zK2 ⟨(n:Int),et,eo,ep,eb,el⟩ k H U (cap:Int) c3 c4 c5 c7 a3 (.slice tz tn tc) V.drew).mono ?_;rintro e1 D1 ⟨v,rfl,Z,X,D⟩;have b5:Hi (Ok V D1):=Ok.step (Below.drew (Ok.refl V)) X;have i7:Hi (EM D1 v H U ⟨(n:Int),et,eo,ep,eb,el⟩ k):=Z;have i1:Hi (∀b∈FM v,V.heap.size<=b):=D;obtain⟨b2,a2,rfl⟩:=Z.form;clear Z X D;have d3:Hi _:=b9.o.step b5.o;have f0:Hi _:=Ok.row' b5.o f9.o;have d8:Hi _:=Ok.row' b5.o f7.o;refine d.out _ _ (λ_=>⟨d3.o.row,d8.o,f0.o⟩) ?_;clear d K O
  try simp only[pu]
  refine zb0 (i:=6) kR rfl (λK d=>?_);go_simp;obtain⟨W4,D⟩:=qq (D1.alloc (Obj.cells #[Value.func (Fn.func b2) #[] a2] 156));have a7:Hi (Ok D1 W4):=by rw[D];exact(Ok.refl D1).alloc _
  have f2:Hi (SL W4 1 (.slice (sA D1.heap.size 0) 1 1) 1 [Value.func (Fn.func b2) #[] a2]):=by rw[D];exact SL.one D1 156 [Value.func (Fn.func b2) #[] a2] rfl (by simp[Value.oneCell'])
  rw[<-D];clear D;have D:Hi _:=d3.o.step a7.o;have Z:Hi _:=Ok.row' a7.o f0.o;have a8:Hi _:=Ok.row' a7.o d8.o;refine d.out _ _ (λ_=>⟨D.o.row,a8.o,Z.o⟩) ?_;clear d K;refine zb0 (i:=7) kR rfl (λK d=>?_);refine zj0 rfl _ _ 108 156 1 8 _ rfl Tryz.underlying108 ws7 (by rfl) dC dC W.heap.size (.slice so k sc) k sv (by rfl) D.o.st (.slice (sA D1.heap.size 0) 1 1) 1 [Value.func (Fn.func b2) #[] a2] (by rfl) f2.o (oH HB.o.2) D.o.ok.le ?_;intro v9 w9 k1 k2;have i5:Hi (w9.ownsRow W.heap.size 156 1 v9 (k+1) (sv++[Value.func (Fn.func b2) #[] a2])):=k1;have f6:Hi _:=k2;obtain⟨d6,d2,rfl⟩:=za0 k1;have X:Hi (w9.heap[Q.gq]?=some (.cells (Q.row (.slice so k sc)) 111 (0,0))):=(k2.block Q.gq (za2 D.o.row) (λe=>zb6 D.o.st D.o.row dC e.symm)).trans D.o.row;have b0:Hi (w9.heap[g7]?=some (.cells #[nI (n:Nat),nI et,nI eo,nI ep,Value.bool eb,Value.bool el] 98 (0,0))):=(k2.block g7 (za2 a8.o) (λe=>zb6 D.o.st a8.o dC e.symm)).trans a8.o;have d1:Hi (w9.heap[gC]?=some (.cells #[nI H,nI U,nI (cap:Nat),nI c3,nI c4,nI c5,Value.slice tz tn tc,nI c7,nI a3] 24 (0,0))):=(k2.block gC (za2 Z.o) (λe=>zb6 D.o.st Z.o dC e.symm)).trans Z.o;clear k1 k2;refine d.out _ _ (λ_=>⟨X.o,b0.o,d1.o⟩) ?_;clear d K;simp only[pu];refine zb0 (i:=8) kR rfl (λK d=>?_);go_simp;refine d.out _ _ (λ_=>⟨X.o,b0.o,d1.o⟩) ?_;clear d K;have j4:w9.cell? (aD Q.gq 10)=some (.slice so k sc):=(cell_of_row _ _ 10 _ _ _ X.o).trans rfl;have j0:w9.frozen? (aD Q.gq 10)=false:=frozen_of_row _ _ _ _ _ X.o;have f4:=za2 X.o;refine zb0 (i:=9) kR rfl (λK d=>?_);go_simp;refine d.out _ _ (λh=>absurd rfl h) ?_;clear d K;refine zd4 kR ?_ _
  have a4:Hi _:=D.o.addStep f3.o (i7.o.ok a7.o) (λb G n' u hu=>by
   intro e9;obtain⟨x,J,h2⟩:=D.o.orow n' (by have h3:=D.o.ou.1;have h4:=(aE.1 hu).1;omega);obtain⟨y,h5,h6⟩:=b9.o.orow n' (by have h3:=D.o.ou.1;have h4:=(aE.1 hu).1;omega);rw[hu]at h5
   injection h5 with h5
   subst h5;have h7:=(h6.lt b e9).2;have h8:=i1.o b G
   omega) i5.o f6.o
  obtain⟨V5,d0⟩:=qq (w9.setCell ⟨Q.gq,10,none⟩ (.slice d6 (k+1) d2))
  have c2:Hi _:=zk3 b0.o (p:=⟨Q.gq,10,none⟩) (λe=>by
   have e1:g7=Q.gq:=e;have J:=b0.o;rw[e1,X.o]at J
   injection J with J
   injection J with _ J
   exact absurd J dC) (.slice d6 (k+1) d2)
  rw[<-d0]at a4 c2;rw[<-d0];clear d0 j4 j0 f4 X b0 d1 i5 f6 D Z a8 d3 f0 d8 i7 i1 f2 a7 b5;obtain⟨u0,d7,D⟩:=a4.o.orow n (by rw[HQ.o.1];exact d9.o);have h9:Hi (ov[n]?=some u0/\V5.ownsRow W.heap.size 3 1 u0 (DC es (n:Int) k).length (ilL (DC es (n:Int) k))):=⟨d7,D⟩;obtain⟨uo,uc,e1⟩:=za0 D;obtain⟨un,c9⟩:=qq ((DC es (n:Int) k).length);rw[<-c9]at e1;have a5:Hi (u0=.slice uo un uc/\un=(DC es (n:Int) k).length):=⟨e1,c9⟩;have Z:V5.cell? (aD Q.go n)=some (.slice uo un uc):=by have J:=a4.o.ou.cells (g:=Q.go) rfl n _ d7;rw[zb7,aL,e1]at J;exact J
  have X:Q.go<V5.heap.size:=(a4.o.ou.lt Q.go rfl).2;clear d7 D c9 e1;obtain⟨a6,g8⟩:=qq (Value.slice d6 (k+1) d2);rw[<-g8]at a4
  go_upto_region 6 with (fail)
  have O:(V5.drew.heap[Q.gq]?=some (.cells (Q.row a6) 111 (0,0))/\V5.drew.heap[g7]?=some (.cells #[nI (n:Nat),nI et,nI eo,nI ep,Value.bool eb,Value.bool el] 98 (0,0))/\V5.drew.cell? (aD Q.go n)=some (.slice uo un uc)/\Q.go<V5.drew.heap.size):=⟨a4.o.row,c2.o,Z,X⟩;refine zd5 (λY=>(Y.heap[Q.gq]?=some (.cells (Q.row a6) 111 (0,0))/\Y.heap[g7]?=some (.cells #[nI (n:Nat),nI et,nI eo,nI ep,Value.bool eb,Value.bool el] 98 (0,0))/\Y.cell? (aD Q.go n)=some (.slice uo un uc)/\Q.go<Y.heap.size)) 14 kR ?_;have l2:(n:Int)<(Q.N:Int):=by have J:=d9.o;have h2:=HQ.o.1;omega
  refine tK 0 (pA Q.gq 11) O ?_;simp only[pu];refine tL 1 (.slice (sA Q.go 0) Q.N Q.N) O ?_ ?_
  ·intro w' R;have z1:w'.cell? (aD Q.gq 11)=some (.slice (sA Q.go 0) Q.N Q.N):=(cell_of_row _ _ 11 _ _ _ R.1).trans rfl;have z2:=za2 R.1;clear R;go_simp;try with_reducible rfl
  simp only[pu];refine tK 2 (pA g7 0) O ?_;simp only[pu];refine tL 3 (nI (n:Nat)) O ?_ ?_
  ·intro w' R;obtain⟨z0,z1,z2,z3,z4,z5,z6⟩:=CY R.2.1;clear R;go_simp;try with_reducible rfl
  simp only[pu];refine tK 4 (pA Q.gq 11) O ?_;simp only[pu];refine tL 5 (.slice (sA Q.go 0) Q.N Q.N) O ?_ ?_
  ·intro w' R;have z1:w'.cell? (aD Q.gq 11)=some (.slice (sA Q.go 0) Q.N Q.N):=(cell_of_row _ _ 11 _ _ _ R.1).trans rfl;have z2:=za2 R.1;clear R;go_simp;try with_reducible rfl
  simp only[pu];refine tK 6 (pA g7 0) O ?_;simp only[pu];refine tL 7 (nI (n:Nat)) O ?_ ?_
  ·intro w' R;obtain⟨z0,z1,z2,z3,z4,z5,z6⟩:=CY R.2.1;clear R;go_simp;try with_reducible rfl
  simp only[pu];refine tK 8 (pA Q.go n) O ?_;simp only[pu];refine tL 9 (.slice uo un uc) O ?_ ?_
  ·intro w' R;obtain⟨-,-,z3,z4⟩:=R;go_simp;try with_reducible rfl
  simp only[pu];refine tK 10 (nI (k:Nat)) O ?_;simp only[pu];refine zb0 (i:=11) kR rfl (λK d=>?_);go_simp;obtain⟨W6,D⟩:=qq ((V5.alloc (Obj.cells #[nI (k:Nat)] 3)).drew);have c0:Hi (Ok V5 W6):=by rw[D];exact Below.drew ((Ok.refl V5).alloc _)
  have i3:Hi (SL W6 1 (.slice (sA V5.heap.size 0) 1 1) 1 [nI (k:Nat)]):=by rw[D];exact SL.one V5 3 [nI (k:Nat)] rfl (by simp[Value.oneCell'])
  rw[<-D];clear D O Z X;have D:Hi _:=a4.o.step c0.o;have b8:Hi _:=Ok.row' c0.o c2.o;have O:Hi (W6.ownsRow W.heap.size 3 1 (.slice uo un uc) un (ilL (DC es (n:Int) k))):=by have J:=za1 h9.o.2 c0.o;rw[a5.o.1,<-a5.o.2]at J;exact J
  have d4:Hi (ov[n]?=some (.slice uo un uc)):=by have J:=h9.o.1;rw[a5.o.1]at J;exact J
  have Z:W6.cell? (aD Q.go n)=some (.slice uo un uc):=by have J:=D.o.ou.cells (g:=Q.go) rfl n _ d4.o;rw[zb7,aL]at J;exact J
  have X:Q.go<W6.heap.size:=(D.o.ou.lt Q.go rfl).2;refine d.out _ _ (λ_=>⟨D.o.row,b8.o,Z,X⟩) ?_;clear d K;refine zb0 (i:=12) kR rfl (λK d=>?_);refine zn6 rfl _ _ 28 3 1 8 _ rfl Tryz.underlying28 wb7 (by rfl) (by decide) (by decide) W.heap.size (.slice uo un uc) un (ilL (DC es (n:Int) k)) (by rfl) O.o (.slice (sA V5.heap.size 0) 1 1) 1 [nI (k:Nat)] (by rfl) i3.o (by decide) (by have J:=a5.o.2;have h2:=yz3 es (n:Int) k;have h3:=HB.o.2;unfold DC at J;rw[aM]at J;omega) D.o.ok.le ?_;intro v8 w8 k1 k2 k3;have j6:Hi (w8.ownsRow W.heap.size 3 1 v8 (un+1) (ilL (DC es (n:Int) k)++[nI (k:Nat)])):=k1;have k7:Hi _:=k2;have j2:Hi _:=k3;obtain⟨l3,l4,rfl⟩:=za0 k1;obtain⟨cg,fg,d5⟩:=zf9 D.o.ou Q.go rfl;have i6:Hi (w8.heap[Q.gq]?=some (.cells (Q.row a6) 111 (0,0))):=(k2.block Q.gq (za2 D.o.row) (λe=>zb6 O.o D.o.row dC e.symm)).trans D.o.row;have g9:Hi (w8.heap[g7]?=some (.cells #[nI (n:Nat),nI et,nI eo,nI ep,Value.bool eb,Value.bool el] 98 (0,0))):=(k2.block g7 (za2 b8.o) (λe=>zb6 O.o b8.o dC e.symm)).trans b8.o;have j3:Hi (w8.heap[Q.go]?=W6.heap[Q.go]?):=k2.block Q.go (za2 d5) (λe=>zb6 O.o d5 dC e.symm);have c6:Hi (w8.ownsRow W.heap.size 28 1 (.slice (sA Q.go 0) Q.N Q.N) Q.N ov):=zb4 D.o.ou λb G=>by cases G;exact j3.o
  clear k1 k2 k3 d5 Z X;have Z:w8.cell? (aD Q.go n)=some (.slice uo un uc):=by have J:=c6.o.cells (g:=Q.go) rfl n _ d4.o;rw[zb7,aL]at J;exact J
  have X:Q.go<w8.heap.size:=(c6.o.lt Q.go rfl).2
  have i9:w8.frozen? (aD Q.go n)=false:=by
   rcases c6.o.2 with ⟨e1,_⟩ | ⟨g',cp,k9,e1,_,g6,_⟩
   ·cases e1
   injection e1 with e5 _ _
   injection e5 with e5
   injection e5 with e5
   rw[<-e5]at g6;exact frozen_of_row _ _ _ _ _ g6
  refine d.out _ _ (λ_=>⟨i6.o,g9.o,Z,X⟩) ?_;clear d K;simp only[pu];refine zb0 (i:=13) kR rfl (λK d=>?_);go_simp;refine d.out _ _ (λ_=>⟨i6.o,g9.o,Z,X⟩) ?_;clear d K;refine zb0 (i:=14) kR rfl (λK d=>?_);go_simp;refine d.out _ _ (λh=>absurd rfl h) ?_;clear d K;refine zd4 kR ?_ _;have k6:Hi _:=D.o.addOut (u:=.slice uo un uc) (by rw[HQ.o.1];exact d9.o) f3.o rfl d4.o (by rw[<-a5.o.2];exact O.o) (by rw[<-a5.o.2];exact j6.o) k7.o j2.o;clear Z X i9;go_wp2_with fail;exact⟨⟨k+1,rfl,a9,⟨_,_,_,k6.o⟩⟩,by show((es.length:Int)-((k:Int)+1)).toNat<((es.length:Int)-(k:Int)).toNat;omega⟩
 have i8:¬(k:Int)<(es.length:Int):=zb2 a9;have D:k=es.length:=oM
 have j7:Hi (wr.heap[Q.gq]?=some (.cells #[Value.slice g0 n0 k0,Value.slice g1 n1 k1,Value.slice g2 n2 k2,Value.slice g3 n3 k3,Value.slice g4 n4 k4,Value.slice g5 n5 k5,nI (N:Nat),nI x7,Value.slice o8 es.length c8,nI (cap:Nat),Value.slice so k sc,Value.slice (sA Q.go 0) N N,Value.slice (sA Q.gg 0) N N] 111 (0,0))):=by have J:=HN.o.row;unfold wh4.row at J;rw[HQ.o.1,HQ.o.2.1,HQ.o.2.2,HA.o.1,HA.o.2.1,HA.o.2.2.1,HA.o.2.2.2.1,HA.o.2.2.2.2.1,HA.o.2.2.2.2.2.1,HA.o.2.2.2.2.2.2.1,HA.o.2.2.2.2.2.2.2.1,HA.o.2.2.2.2.2.2.2.2]at J;exact J
 have X:Hi _:=Ok.row' HN.o.ok j9.o;obtain⟨p0,p1,p2,p3,p4,p5,p6,p7,p8,p9,l5,l6,l1,f4⟩:=wd0 j7.o;have Z:Hi (k=es.length):=D;clear D a9 hk
 go_wp2_with (first|(refine za8 rfl 111 _ _ rfl gR 111 _ #[Value.slice g0 n0 k0,Value.slice g1 n1 k1,Value.slice g2 n2 k2,Value.slice g3 n3 k3,Value.slice g4 n4 k4,Value.slice g5 n5 k5,nI (N:Nat),nI x7,Value.slice o8 es.length c8,nI (cap:Nat),Value.slice so k sc,Value.slice (sA Q.go 0) N N,Value.slice (sA Q.gg 0) N N] (by rfl) (by rfl) X.o wl4 rfl (by simp[Value.oneCell']) ?_)|fail)
 (try simp only[Exit.inBlock,Exit.then]);refine bodyPost_ret (results_cell_row rfl _ _ gR 111 #[Value.slice g0 n0 k0,Value.slice g1 n1 k1,Value.slice g2 n2 k2,Value.slice g3 n3 k3,Value.slice g4 n4 k4,Value.slice g5 n5 k5,nI (N:Nat),nI x7,Value.slice o8 es.length c8,nI (cap:Nat),Value.slice so k sc,Value.slice (sA Q.go 0) N N,Value.slice (sA Q.gg 0) N N] (0,0) _ rfl (setRow_heap _ _ _ _ _ _ X.o) Tryz.underlying111 rfl wl4) rfl ?_;have b7:gR<W.heap.size:=HG.o.2.2.2.2.2;have O:∀b,W.heap.size<=b->(wr.setRow gR #[Value.slice g0 n0 k0,Value.slice g1 n1 k1,Value.slice g2 n2 k2,Value.slice g3 n3 k3,Value.slice g4 n4 k4,Value.slice g5 n5 k5,nI (N:Nat),nI x7,Value.slice o8 es.length c8,nI (cap:Nat),Value.slice so k sc,Value.slice (sA Q.go 0) N N,Value.slice (sA Q.gg 0) N N]).heap[b]?=wr.heap[b]?:=λb G=>setRow_other _ _ _ _ oM;have D:=HN.o;rw[Z.o]at D;refine⟨(λi=>match i with | 0=>Value.slice g0 n0 k0 | 1=>Value.slice g1 n1 k1 | 2=>Value.slice g2 n2 k2 | 3=>Value.slice g3 n3 k3 | 4=>Value.slice g4 n4 k4 | 5=>Value.slice g5 n5 k5 | 6=>nI (N:Nat) | 7=>nI x7 | 8=>Value.slice o8 es.length c8 | 9=>nI (cap:Nat) | 10=>Value.slice so k sc | 11=>Value.slice (sA Q.go 0) N N | _=>Value.slice (sA Q.gg 0) N N),Q.gg,rfl,⟨rfl,λi hi=>?_,⟨_,rfl⟩,?_,rfl,⟨sv,?_,?_⟩,⟨ov,?_,?_⟩,rfl,?_⟩,zd0 (HK.o.step HN.o.ok) HG.o.2.2.1 _⟩
 ·match i,hi with
  | 0,_=>exact⟨_,_,_,rfl⟩
  | 1,_=>exact⟨_,_,_,rfl⟩
  | 2,_=>exact⟨_,_,_,rfl⟩
  | 3,_=>exact⟨_,_,_,rfl⟩
  | 4,_=>exact⟨_,_,_,rfl⟩
  | 5,_=>exact⟨_,_,_,rfl⟩
 ·have J:=HE.o
  rw[HA.o.2.2.2.2.2.2.2.2]at J;exact zb4 (za1 J (HK.o.step HN.o.ok)) λb G=>setRow_other _ _ _ _ (by have:=(J.lt b G).2;have:=HG.o;omega)
 ·show World.ownsRow _ _ _ _ (Value.slice so k sc) es.length sv
  have J:=za7 D.st HK.o.le;rw[Z.o]at O ⊢;exact zb4 J λb G=>O b (D.st.lt b G).1
 ·intro i e he
  obtain⟨v,J,h2⟩:=D.sd i e (aE.1 he).1 he;exact⟨v,J,h2.far λb G ⟨c,f,Y⟩=>setRow_other _ _ _ _ (λe9=>by rw[e9,X.o]at Y;injection Y with Y;injection Y with _ Y;exact absurd Y (by decide))⟩
 ·have J:=za7 D.ou HK.o.le
  rw[HQ.o.1]at J;exact zb4 J λb G=>O b (by cases G;exact D.base.2.1)
 ·intro n I
  obtain⟨v,J,h2⟩:=D.orow n (by rw[HQ.o.1];exact I);rw[yc6]at h2;exact⟨v,J,za7 (zb4 h2 λb G=>O b (h2.lt b G).1) HK.o.le⟩
 have J:=za7 D.mg HK.o.le;rw[HQ.o.1]at J
 have e:mgB N (DR cap H U es [])=List.replicate N (.bool false):=by
  unfold mgB DR;apply eD;intro i;simp only[aX,dS];by_cases h:i<N
  ·rw[cF h,aG h];simp
  rw[aS (by simp;omega),aC h];rfl
 rw[e];exact zb4 J λb G=>O b (by cases G;exact D.base.2.2)
end Go.Proofs.YthoegkcpmgalbaaGreatDoor
