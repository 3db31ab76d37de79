import Derived.Test.YtpongdpnbclchaaGreatDoorKHb
set_option linter.all false
set_option maxRecDepth 100000
namespace Go.Proofs.YtpongdpnbclchaaGreatDoor
variable{N:Nat}{W w:World}
open Go.RowKit Go.Maps
theorem yc7(e:TypeId)(z:Value)(w:World)(B N:Nat)(hB:B<=w.heap.size)(hN:N<=1000000):(w.alloc (.cells (madeCells #[z] N) e)).ownsRow B e 1 (.slice (sA w.heap.size 0) N N) N (List.replicate N z):=by have h:=World.ownsRow_lit (base:=B) (e:=e) (size:=1) w (madeCells #[z] N) N hB (by unfold maxLen;omega) (by rw[size_madeCells];omega);rw[toList_madeCells_one]at h;exact h
theorem wk9:(Tryz.prog.info? 139).map (·.size)=some 13:=by kernel_rfl
theorem wq7:(Tryz.prog.info? 25).map (λi=>(i.zero,i.size,i.bytes))=some (some (sZ),1,24):=by kernel_rfl
theorem wq8:(Tryz.prog.info? 4).map (λi=>(i.zero,i.size,i.bytes))=some (some (.bool false),1,1):=by kernel_rfl
theorem wq9:(Tryz.prog.info? 61).map (λi=>(i.zero,i.size,i.bytes))=some (some .nilFunc,1,8):=by kernel_rfl
theorem yz3(es:List Ed)(n:Int)(k:Nat):(we2 es n k).length<=es.length:=by obtain⟨l,h⟩:=zx0 (es:=es) (n:=n) k;have h1:=zr0 es n;rw[h,List.length_append]at h1;omega
theorem za8{ops:Array Oper}{rest:List Oper}{o:Oper}{a:Act}{Q:Exit->Act->World->Prop}(hgd:o.guard=none)(ty:TypeId)(x y:Operand)(ho:o.op=.store ty x y)(g:Nat)(t:TypeId)(old cells:Array Value)
  (hx:a.eval x=pA g 0) (hy:a.eval y=.agg cells) (hg:w.heap[g]?=some (.cells old t (0,0))) (hi:(Tryz.prog.info? ty).map (·.size)=some cells.size) (hs:old.size=cells.size) (h1:cells.all (·.oneCell')=true) (h:wpList Tryz.prog ops Q rest (a.put o.dst undef) (w.setRow g cells)):wpList Tryz.prog ops Q (o::rest) a w :=
 wpList_plain hgd λK hK=>by unfold Oper.wp execOp;simp only[ho,hx,hy,Instr.storeAt,Instr.sureAddr,Sem.run_bind,Sem.run_pure,Result.andThen_ok,run_storeVar_row w g t ty old cells hg hi hs h1];exact hK _ _ h
theorem EZ{g:Nat}{a0 a1 a2 a3 a4 a5:Value}{t:TypeId}(h:w.heap[g]?=some (.cells #[a0,a1,a2,a3,a4,a5] t (0,0))):w.cell? (aD g 0)=some a0/\w.cell? (aD g 1)=some a1/\w.cell? (aD g 2)=some a2/\w.cell? (aD g 3)=some a3/\w.cell? (aD g 4)=some a4/\w.cell? (aD g 5)=some a5/\g<w.heap.size :=
 ⟨(cell_of_row _ _ 0 _ _ _ h).trans rfl,(cell_of_row _ _ 1 _ _ _ h).trans rfl,(cell_of_row _ _ 2 _ _ _ h).trans rfl,(cell_of_row _ _ 3 _ _ _ h).trans rfl,(cell_of_row _ _ 4 _ _ _ h).trans rfl,(cell_of_row _ _ 5 _ _ _ h).trans rfl,za2 h⟩
theorem CQ{g:Nat}{a0 a1 a2 a3 a4 a5 a6 a7 a8:Value}{t:TypeId}(h:w.heap[g]?=some (.cells #[a0,a1,a2,a3,a4,a5,a6,a7,a8] t (0,0))) :
  w.cell? (aD g 0)=some a0/\w.cell? (aD g 1)=some a1/\w.cell? (aD g 2)=some a2/\w.cell? (aD g 3)=some a3/\w.cell? (aD g 4)=some a4/\w.cell? (aD g 5)=some a5/\w.cell? (aD g 6)=some a6/\w.cell? (aD g 7)=some a7/\w.cell? (aD g 8)=some a8/\g<w.heap.size :=
 ⟨(cell_of_row _ _ 0 _ _ _ h).trans rfl,(cell_of_row _ _ 1 _ _ _ h).trans rfl,(cell_of_row _ _ 2 _ _ _ h).trans rfl,(cell_of_row _ _ 3 _ _ _ h).trans rfl,(cell_of_row _ _ 4 _ _ _ h).trans rfl,(cell_of_row _ _ 5 _ _ _ h).trans rfl,(cell_of_row _ _ 6 _ _ _ h).trans rfl,(cell_of_row _ _ 7 _ _ _ h).trans rfl,(cell_of_row _ _ 8 _ _ _ h).trans rfl,za2 h⟩
structure N0(W u:World)(a:Nat->Value)(N cap:Nat)(s5:Value):Prop where
 at_:∃gq go gg:Nat,s5=pA gq 0/\u.heap[gq]?=some (.cells #[a 0,a 1,a 2,a 3,a 4,a 5,a 6,a 7,a 8,nI (cap:Nat),sZ,.slice (sA go 0) N N,.slice (sA gg 0) N N] 139 (0,0))/\u.ownsRow W.heap.size 25 1 (.slice (sA go 0) N N) N (List.replicate N (sZ))/\u.ownsRow W.heap.size 4 1 (.slice (sA gg 0) N N) N (List.replicate N (.bool false))/\W.heap.size<=gq/\W.heap.size<=go/\W.heap.size<=gg
 ok:Ok W u
theorem NPI.start{u:World}{a:Nat->Value}{cap:Nat}{s5:Value}(h:N0 W u a N cap s5)(es:List Ed)(H U:Int):∃Q:wh7,s5=pA Q.gq 0/\Q.N=N/\Q.cap=cap/\Q.a=a/\NPI W Q es H U u 0 0 [] (sZ) (List.replicate N (sZ)):=by
 obtain⟨gq,go,gg,h1,h2,h3,h4,h5,h6,h7⟩:=h.at_;refine⟨⟨gq,go,gg,N,cap,a⟩,h1,rfl,rfl,rfl,h.ok,⟨h5,h6,h7⟩,h2,World.ownsRow_nil _ _ _ _,λi e hi=>absurd hi (Nat.not_lt_zero _),h3,λn hn=>⟨sZ,?_,?_⟩,λn m v u' b hv hu hb=>?_,λi v b n u' hv=>by simp at hv,λi v hv=>by simp at hv,h4⟩
 ·rw[List.getElem?_replicate,if_pos hn]
 ·have e:CZ es (n:Int) 0=[]:=by unfold CZ;rw[zs9];rfl
  rw[e];exact World.ownsRow_nil _ _ _ _
 rw[List.getElem?_replicate]at hv
 split at hv
 ·injection hv with hv
  subst hv;cases hb
 cases hv
structure PO(w:World)(B:Nat)(a:Nat->Value)(N gg:Nat)(H U:Int)(cap:Nat)(es:List Ed)(mg:List Int):Prop where
 nodes:a 6=nI (N:Nat)
 sls:∀i,i<6->∃ao n c,a i=.slice ao n c
 exi:∃x,a 7=nI x
 edges:w.ownsRow 0 59 6 (a 8) es.length (edL es)
 capv:a 9=nI (cap:Nat)
 steps:∃sv:List Value,w.ownsRow B 61 1 (a 10) es.length sv/\∀(i:Nat) (e:Ed),es[i]?=some e->∃v,sv[i]?=some v/\EJ w v H U e i
 outs:∃ov:List Value,w.ownsRow B 25 1 (a 11) N ov/\∀n,n<N->∃v,ov[n]?=some v/\w.ownsRow B 3 1 v (wh6 es (n:Int)).length (ilL (wh6 es (n:Int)))
 mrg:a 12=.slice (sA gg 0) N N/\w.ownsRow B 4 1 (.slice (sA gg 0) N N) N (mgB N (DU cap H U es mg))
theorem zp6:∀{es:List Ed} {i:Nat} {e:Ed},es[i]?=some e->∀(j:Nat) (u:Value),(edV e)[j]?=some u->(edL es)[i*6+j]?=some u
 | [],i,e,h,_,_,_=>by simp at h
 | d::es,i,e,h,j,u,hj=>by
  have q:edL (d::es)=edV d++edL es:=by simp[edL]
  have hl:(edV d).length=6:=rfl
  cases i with
  | zero =>
   simp only[List.getElem?_cons_zero,Option.some.injEq]at h;subst h;have:=(List.getElem?_eq_some_iff.1 hj).1;rw[q,Nat.zero_mul,Nat.zero_add,List.getElem?_append_left this];exact hj
  | succ i =>
   simp only[List.getElem?_cons_succ]at h;rw[q,List.getElem?_append_right (by omega),hl,show(i+1)*6+j-6=i*6+j by omega];exact zp6 h j u hj
theorem yo6(es:List Ed):∀u∈edL es,u.oneCell'=true:=λu hu=>by
 obtain⟨l,h1,h2⟩:=List.mem_flatten.1 hu;obtain⟨e,_,rfl⟩:=List.mem_map.1 h1;simp only[edV,List.mem_cons,List.not_mem_nil,or_false]at h2
 rcases h2 with rfl | rfl | rfl | rfl | rfl | rfl<;>rfl
theorem PO.pi{B:Nat}{a:Nat->Value}{gg:Nat}{H U:Int}{cap:Nat}{es:List Ed}{mg:List Int}(h:PO w B a N gg H U cap es mg)(hU:U<=1000):PI w a N (DU cap H U es mg):=by
 obtain⟨sv,h1,h2⟩:=h.steps;obtain⟨ov,h3,h4⟩:=h.outs;have hm1:∀u∈mgB N (DU cap H U es mg),u.oneCell'=true:=λu hu=>by obtain⟨n,_,rfl⟩:=List.mem_map.1 hu;rfl
 have ho1:∀n,n<N->∃v,ov[n]?=some v/\SL w 1 v (CP es (n:Int)).length (ilL (wh6 es (n:Int))):=λn hn=>by
  obtain⟨v,e1,e2⟩:=h4 n hn;have e3:=zt1 e2 (zJ6 _) dC;have e4:(wh6 es (n:Int)).length=(CP es (n:Int)).length:=by unfold wh6;rw[List.length_map]
  rw[e4]at e3;exact⟨v,e1,e3⟩
 refine⟨h.nodes,zt1 h.edges (yo6 es) (by decide),h.capv,⟨sv,zt1 h1 (λu hu=>?_) (by decide),λi e he=>by obtain⟨v,e1,e2⟩:=h2 i e he;exact⟨v,e1,e2.v hU⟩⟩,⟨ov,zt1 h3 (λu hu=>?_) (by decide),ho1⟩,by rw[h.mrg.1];exact zt1 h.mrg.2 hm1 (by decide),h.sls,h.exi⟩
 ·obtain⟨i,hi⟩:=List.mem_iff_getElem?.1 hu
  have hl:i<es.length:=by have:=(List.getElem?_eq_some_iff.1 hi).1;have:=h1.1;omega
  obtain⟨v,e1,e2⟩:=h2 i _ (gG_ hl);rw[hi]at e1
  injection e1 with e1
  subst e1;obtain⟨fid,caps,e3⟩:=e2.form;rw[e3];rfl
 obtain⟨i,hi⟩:=List.mem_iff_getElem?.1 hu;have hl:i<N:=by have:=(List.getElem?_eq_some_iff.1 hi).1;have:=h3.1;omega
 obtain⟨v,e1,e2⟩:=h4 i hl;rw[hi]at e1
 injection e1 with e1
 subst e1;obtain⟨ao,c,e3⟩:=za0 e2;rw[e3];rfl
theorem zi8{D:World}(h:Ok W D)(e:TypeId)(z:Value)(hN:N<=1000000):∃(E:World) (g:Nat),(D.alloc (.cells (madeCells #[z] N) e)=E/\D.heap.size=g)/\Ok D E/\Ok W E/\Hi (E.ownsRow W.heap.size e 1 (.slice (sA g 0) N N) N (List.replicate N z))/\Hi (D.heap.size<=g/\g<E.heap.size) :=
 ⟨_,_,⟨rfl,rfl⟩,(Ok.refl D).alloc _,h.alloc _,yc7 e z D W.heap.size N h.le hN,Nat.le_refl _,by simp⟩
theorem zt6{D:World}(h:Ok W D):∃(E:World) (g:Nat),(D.alloc (.cells #[sZ,sZ,sZ,sZ,sZ,sZ,nI 0,nI 0,sZ,nI 0,sZ,sZ,sZ] 139)=E/\D.heap.size=g)/\Ok D E/\Ok W E/\Hi (E.heap[g]?=some (.cells #[sZ,sZ,sZ,sZ,sZ,sZ,nI 0,nI 0,sZ,nI 0,sZ,sZ,sZ] 139 (0,0)))/\Hi (D.heap.size<=g/\g<E.heap.size):=yc1 h _ _
def wp7(w:World)(N:Nat)(H U:Int)(cap:Nat)(es:List Ed)(e:Ending)(w':World):Prop:=∃(b:Nat->Value) (gg:Nat),e=.returned (.agg #[b 0,b 1,b 2,b 3,b 4,b 5,b 6,b 7,b 8,b 9,b 10,b 11,b 12])/\PO w' w.heap.size b N gg H U cap es []/\Ok w w'
set_option maxHeartbeats 8000000 in
theorem zK3(a:Nat->Value)(N cap:Nat)(H U c3 c4 c5 c7 c8':Int)(tz:Option Addr)(tn tc:Nat)(es:List Ed)(w:World)(hn:a 6=nI (N:Nat))(hs:∀i,i<6->∃ao n c,a i=.slice ao n c)(hx:∃x,a 7=nI x)(he:w.ownsRow 0 59 6 (a 8) es.length (edL es))(hb:N<=1000/\es.length<=5000)(hfr:∀e∈es,0<=e.from'/\e.from'<(N:Int)) :
  Calls Tryz.prog 64 #[.agg #[a 0,a 1,a 2,a 3,a 4,a 5,a 6,a 7,a 8],.agg #[nI H,nI U,nI (cap:Nat),nI c3,nI c4,nI c5,.slice tz tn tc,nI c7,nI c8']] w λe w'=>wp7 w N H U cap es e w':=by
 obtain⟨g0,n0,k0,ha0⟩:=hs 0 oM;obtain⟨g1,n1,k1,ha1⟩:=hs 1 oM;obtain⟨g2,n2,k2,ha2⟩:=hs 2 oM;obtain⟨g3,n3,k3,ha3⟩:=hs 3 oM;obtain⟨g4,n4,k4,ha4⟩:=hs 4 oM;obtain⟨g5,n5,k5,ha5⟩:=hs 5 oM;obtain⟨x7,ha7⟩:=hx;obtain⟨o8,c8,e8⟩:=za0 he;have HE:=hid he;have HB:=hid hb;have HFR:=hid hfr;have HSS:Hi (a 6=nI (N:Nat)/\(∀i,i<6->∃ao n c,a i=.slice ao n c)/\∃x,a 7=nI x):=⟨hn,hs,⟨x7,ha7⟩⟩;have HA:Hi (a 0=.slice g0 n0 k0/\a 1=.slice g1 n1 k1/\a 2=.slice g2 n2 k2/\a 3=.slice g3 n3 k3/\a 4=.slice g4 n4 k4/\a 5=.slice g5 n5 k5/\a 6=nI (N:Nat)/\a 7=nI x7/\a 8=.slice o8 es.length c8):=⟨ha0,ha1,ha2,ha3,ha4,ha5,hn,ha7,e8⟩;rw[ha0,ha1,ha2,ha3,ha4,ha5,ha7,hn,e8];clear ha0 ha1 ha2 ha3 ha4 ha5 ha7 hn e8 hs he hb hfr;have HN6:Hi (N<=1000000):=by have:=HB.o.1;unfold Hi;omega
 have hmk1:=run_make_row' (P:=Tryz.prog) 41 25 (sZ) 24 Tryz.underlying41 wq7 rfl .i64 .i64 N (by have:=HB.o.1;omega) (by have:=HB.o.1;omega);have hmk2:=run_make_row' (P:=Tryz.prog) 137 4 (.bool false) 1 Tryz.underlying137 wq8 rfl .i64 .i64 N (by have:=HB.o.1;omega) (by have:=HB.o.1;omega);go_enter Tryz.func64,Tryz.ntmps64
 go_upto_region 1 with (fail)
 obtain⟨W,hW⟩:=qq (((w.alloc (Obj.cells #[.slice g0 n0 k0,.slice g1 n1 k1,.slice g2 n2 k2,.slice g3 n3 k3,.slice g4 n4 k4,.slice g5 n5 k5,nI (N:Nat),nI x7,.slice o8 es.length c8] 53)).alloc (Obj.cells #[nI H,nI U,nI (cap:Nat),nI c3,nI c4,nI c5,.slice tz tn tc,nI c7,nI c8'] 24)).alloc (Obj.cells #[sZ,sZ,sZ,sZ,sZ,sZ,nI 0,nI 0,sZ,nI 0,sZ,sZ,sZ] 139));obtain⟨gG,hgG⟩:=qq (w.heap.size);obtain⟨gC,hgC⟩:=qq (w.heap.size+1);obtain⟨gR,hgR⟩:=qq (w.heap.size+1+1);rw[<-hW,<-hgR,<-hgC,<-hgG];have HK:Hi (Ok w W):=by rw[hW];exact(((Ok.refl w).alloc _).alloc _).alloc _
 have HRG:Hi (W.heap[gG]?=some (.cells #[Value.slice g0 n0 k0,Value.slice g1 n1 k1,Value.slice g2 n2 k2,Value.slice g3 n3 k3,Value.slice g4 n4 k4,Value.slice g5 n5 k5,nI (N:Nat),nI x7,Value.slice o8 es.length c8] 53 (0,0))):=by rw[hW,hgG];exact jj
 have HRC:Hi (W.heap[gC]?=some (.cells #[nI H,nI U,nI (cap:Nat),nI c3,nI c4,nI c5,Value.slice tz tn tc,nI c7,nI c8'] 24 (0,0))):=by rw[hW,hgC];exact jj
 have HRR:Hi (W.heap[gR]?=some (.cells #[sZ,sZ,sZ,sZ,sZ,sZ,nI 0,nI 0,sZ,nI 0,sZ,sZ,sZ] 139 (0,0))):=by rw[hW,hgR];exact jj
 have HG:Hi (w.heap.size<=gG/\w.heap.size<=gC/\w.heap.size<=gR/\gG<W.heap.size/\gC<W.heap.size/\gR<W.heap.size):=by unfold Hi;rw[hW];simp;omega
 clear hW hgG hgC hgR
 go_cut [5] from 8 to 17 (λs5 u=>Hi (N0 W u a N cap s5))
 case first =>
  refine wp_region_held_drew (S:=λw'=>Ok W w') kR (Below.drew (Ok.refl _)) (λhH=>?_);obtain⟨D,hD⟩:=qq (W.drew);rw[<-hD]at hH ⊢;clear hD;refine tH 0 (.agg #[.slice g0 n0 k0,.slice g1 n1 k1,.slice g2 n2 k2,.slice g3 n3 k3,.slice g4 n4 k4,.slice g5 n5 k5,nI (N:Nat),nI x7,.slice o8 es.length c8]) ?_ hH ?_
  ·intro w' s0;obtain⟨q0,q1,q2,q3,q4,q5,q6,q7,q8,q9⟩:=CQ (Ok.row' s0 HRG.o);clear s0;go_simp;try with_reducible rfl
  (try simp only[pu]);refine tJ 1 (pA gC 2) hH ?_;(try simp only[pu]);refine tH 2 (nI (cap:Nat)) ?_ hH ?_
  ·intro w' s0;obtain⟨q0,q1,q2,q3,q4,q5,q6,q7,q8,q9⟩:=CQ (Ok.row' s0 HRC.o);clear s0;go_simp;try with_reducible rfl
  (try simp only[pu]);refine tJ 3 (pA gG 6) hH ?_;(try simp only[pu]);refine tH 4 (nI (N:Nat)) ?_ hH ?_
  ·intro w' s0;obtain⟨q0,q1,q2,q3,q4,q5,q6,q7,q8,q9⟩:=CQ (Ok.row' s0 HRG.o);clear s0;go_simp;try with_reducible rfl
  (try simp only[pu]);refine tJ 6 (pA gG 6) hH ?_;(try simp only[pu]);refine tH 7 (nI (N:Nat)) ?_ hH ?_
  ·intro w' s0;obtain⟨q0,q1,q2,q3,q4,q5,q6,q7,q8,q9⟩:=CQ (Ok.row' s0 HRG.o);clear s0;go_simp;try with_reducible rfl
  (try simp only[pu]);have HD0:Hi (W.heap.size<=D.heap.size):=hH.le;refine wpAnyH_ready (rs:=[5,8,10]) kR sI ?_;refine AllReadyH.cons rfl (λK hK=>?_) (AllReadyH.cons rfl (λK hK=>?_) (AllReadyH.cons rfl (λK hK=>?_) AllReadyH.nil));go_simp;obtain⟨X1,go,hn,hx,hb,HOu,Lgo⟩:=zi8 hH 25 (sZ) HN6.o;rw[hn.1,hn.2];refine hK.out _ _ hb (λhH=>?_);clear hK K hn hb hx;(try simp only[pu]);refine wpAnyH_ready (rs:=[8,10]) kR sI ?_;refine AllReadyH.cons rfl (λK hK=>?_) (AllReadyH.cons rfl (λK hK=>?_) AllReadyH.nil);go_simp;obtain⟨X2,gg,hn,hx,hb,HMg,Lgg⟩:=zi8 hH 4 (.bool false) HN6.o;rw[hn.1,hn.2];replace HOu:Hi _:=za1 HOu.o hx;refine hK.out _ _ hb (λhH=>?_);clear hK K hn hb hx;(try simp only[pu]);refine tJ 9 (.agg #[.slice g0 n0 k0,.slice g1 n1 k1,.slice g2 n2 k2,.slice g3 n3 k3,.slice g4 n4 k4,.slice g5 n5 k5,nI (N:Nat),nI x7,.slice o8 es.length c8,nI (cap:Nat),sZ,.slice (sA go 0) N N,.slice (sA gg 0) N N]) hH ?_;(try simp only[pu]);refine wpAnyH_ready (rs:=[10]) kR sI ?_;refine AllReadyH.cons rfl (λK hK=>?_) AllReadyH.nil;go_simp;obtain⟨X3,gq,hn,hx,hb,HFz,Lgq⟩:=zt6 hH;rw[hn.1,hn.2];replace HOu:Hi _:=za1 HOu.o hx;replace HMg:Hi _:=za1 HMg.o hx;refine hK.out _ _ hb (λhH=>?_);clear hK K hn hb hx;(try simp only[pu]);rotate_left;go_simp;obtain⟨X2,gq,hn,hx,hb,HFz,Lgq⟩:=zt6 hH;rw[hn.1,hn.2];replace HOu:Hi _:=za1 HOu.o hx;refine hK.out _ _ hb (λhH=>?_);clear hK K hn hb hx;(try simp only[pu]);refine wpAnyH_ready (rs:=[8]) kR sI ?_;refine AllReadyH.cons rfl (λK hK=>?_) AllReadyH.nil;go_simp;obtain⟨X3,gg,hn,hx,hb,HMg,Lgg⟩:=zi8 hH 4 (.bool false) HN6.o;rw[hn.1,hn.2];replace HOu:Hi _:=za1 HOu.o hx;replace HFz:Hi _:=Ok.row' hx HFz.o;refine hK.out _ _ hb (λhH=>?_);clear hK K hn hb hx;(try simp only[pu]);refine tJ 9 (.agg #[.slice g0 n0 k0,.slice g1 n1 k1,.slice g2 n2 k2,.slice g3 n3 k3,.slice g4 n4 k4,.slice g5 n5 k5,nI (N:Nat),nI x7,.slice o8 es.length c8,nI (cap:Nat),sZ,.slice (sA go 0) N N,.slice (sA gg 0) N N]) hH ?_;(try simp only[pu]);rotate_left;go_simp;obtain⟨X1,gg,hn,hx,hb,HMg,Lgg⟩:=zi8 hH 4 (.bool false) HN6.o;rw[hn.1,hn.2];refine hK.out _ _ hb (λhH=>?_);clear hK K hn hb hx;(try simp only[pu]);refine wpAnyH_ready (rs:=[5,10]) kR sI ?_;refine AllReadyH.cons rfl (λK hK=>?_) (AllReadyH.cons rfl (λK hK=>?_) AllReadyH.nil);go_simp;obtain⟨X2,go,hn,hx,hb,HOu,Lgo⟩:=zi8 hH 25 (sZ) HN6.o;rw[hn.1,hn.2];replace HMg:Hi _:=za1 HMg.o hx;refine hK.out _ _ hb (λhH=>?_);clear hK K hn hb hx;(try simp only[pu]);refine tJ 9 (.agg #[.slice g0 n0 k0,.slice g1 n1 k1,.slice g2 n2 k2,.slice g3 n3 k3,.slice g4 n4 k4,.slice g5 n5 k5,nI (N:Nat),nI x7,.slice o8 es.length c8,nI (cap:Nat),sZ,.slice (sA go 0) N N,.slice (sA gg 0) N N]) hH ?_;(try simp only[pu]);refine wpAnyH_ready (rs:=[10]) kR sI ?_;refine AllReadyH.cons rfl (λK hK=>?_) AllReadyH.nil;go_simp;obtain⟨X3,gq,hn,hx,hb,HFz,Lgq⟩:=zt6 hH;rw[hn.1,hn.2];replace HMg:Hi _:=za1 HMg.o hx;replace HOu:Hi _:=za1 HOu.o hx;refine hK.out _ _ hb (λhH=>?_);clear hK K hn hb hx;(try simp only[pu]);rotate_left;go_simp;obtain⟨X2,gq,hn,hx,hb,HFz,Lgq⟩:=zt6 hH;rw[hn.1,hn.2];replace HMg:Hi _:=za1 HMg.o hx;refine hK.out _ _ hb (λhH=>?_);clear hK K hn hb hx;(try simp only[pu]);refine wpAnyH_ready (rs:=[5]) kR sI ?_;refine AllReadyH.cons rfl (λK hK=>?_) AllReadyH.nil;go_simp;obtain⟨X3,go,hn,hx,hb,HOu,Lgo⟩:=zi8 hH 25 (sZ) HN6.o;rw[hn.1,hn.2];replace HMg:Hi _:=za1 HMg.o hx;replace HFz:Hi _:=Ok.row' hx HFz.o;refine hK.out _ _ hb (λhH=>?_);clear hK K hn hb hx;(try simp only[pu]);refine tJ 9 (.agg #[.slice g0 n0 k0,.slice g1 n1 k1,.slice g2 n2 k2,.slice g3 n3 k3,.slice g4 n4 k4,.slice g5 n5 k5,nI (N:Nat),nI x7,.slice o8 es.length c8,nI (cap:Nat),sZ,.slice (sA go 0) N N,.slice (sA gg 0) N N]) hH ?_;(try simp only[pu]);rotate_left;go_simp;obtain⟨X1,gq,hn,hx,hb,HFz,Lgq⟩:=zt6 hH;rw[hn.1,hn.2];refine hK.out _ _ hb (λhH=>?_);clear hK K hn hb hx;(try simp only[pu]);refine wpAnyH_ready (rs:=[5,8]) kR sI ?_;refine AllReadyH.cons rfl (λK hK=>?_) (AllReadyH.cons rfl (λK hK=>?_) AllReadyH.nil);go_simp;obtain⟨X2,go,hn,hx,hb,HOu,Lgo⟩:=zi8 hH 25 (sZ) HN6.o;rw[hn.1,hn.2];replace HFz:Hi _:=Ok.row' hx HFz.o;refine hK.out _ _ hb (λhH=>?_);clear hK K hn hb hx;(try simp only[pu]);refine wpAnyH_ready (rs:=[8]) kR sI ?_;refine AllReadyH.cons rfl (λK hK=>?_) AllReadyH.nil;go_simp;obtain⟨X3,gg,hn,hx,hb,HMg,Lgg⟩:=zi8 hH 4 (.bool false) HN6.o;rw[hn.1,hn.2];replace HFz:Hi _:=Ok.row' hx HFz.o;replace HOu:Hi _:=za1 HOu.o hx;refine hK.out _ _ hb (λhH=>?_);clear hK K hn hb hx;(try simp only[pu]);refine tJ 9 (.agg #[.slice g0 n0 k0,.slice g1 n1 k1,.slice g2 n2 k2,.slice g3 n3 k3,.slice g4 n4 k4,.slice g5 n5 k5,nI (N:Nat),nI x7,.slice o8 es.length c8,nI (cap:Nat),sZ,.slice (sA go 0) N N,.slice (sA gg 0) N N]) hH ?_;(try simp only[pu]);rotate_left;go_simp;obtain⟨X2,gg,hn,hx,hb,HMg,Lgg⟩:=zi8 hH 4 (.bool false) HN6.o;rw[hn.1,hn.2];replace HFz:Hi _:=Ok.row' hx HFz.o;refine hK.out _ _ hb (λhH=>?_);clear hK K hn hb hx;(try simp only[pu]);refine wpAnyH_ready (rs:=[5]) kR sI ?_;refine AllReadyH.cons rfl (λK hK=>?_) AllReadyH.nil;go_simp;obtain⟨X3,go,hn,hx,hb,HOu,Lgo⟩:=zi8 hH 25 (sZ) HN6.o;rw[hn.1,hn.2];replace HFz:Hi _:=Ok.row' hx HFz.o;replace HMg:Hi _:=za1 HMg.o hx;refine hK.out _ _ hb (λhH=>?_);clear hK K hn hb hx;(try simp only[pu]);refine tJ 9 (.agg #[.slice g0 n0 k0,.slice g1 n1 k1,.slice g2 n2 k2,.slice g3 n3 k3,.slice g4 n4 k4,.slice g5 n5 k5,nI (N:Nat),nI x7,.slice o8 es.length c8,nI (cap:Nat),sZ,.slice (sA go 0) N N,.slice (sA gg 0) N N]) hH ?_;(try simp only[pu]);rotate_left
  all_goals
   refine wpAnyH_ready (rs:=[11]) kR sI ?_;refine AllReadyH.cons rfl (λK hK=>?_) AllReadyH.nil;have hq:W.heap.size<=gq/\W.heap.size<=go/\W.heap.size<=gg/\go≠gq/\gg≠gq:=by have h1:=Lgq.o;have h2:=Lgo.o;have h3:=Lgg.o;have h4:=HD0.o;omega
   refine zg9 rfl 139 _ _ rfl gq 139 _ (#[.slice g0 n0 k0,.slice g1 n1 k1,.slice g2 n2 k2,.slice g3 n3 k3,.slice g4 n4 k4,.slice g5 n5 k5,nI (N:Nat),nI x7,.slice o8 es.length c8,nI (cap:Nat),sZ,.slice (sA go 0) N N,.slice (sA gg 0) N N]) (by rfl) (by rfl) HFz.o wk9 rfl (by simp[Value.oneCell']) rfl ?_;refine hK.out _ _ (zd0 hH hq.1 _) (λhH2=>?_);clear hK K;refine wpAnyH_done kR ?_ _;have Hq:Hi (W.heap.size<=gq/\W.heap.size<=go/\W.heap.size<=gg/\go≠gq/\gg≠gq):=hq;clear hq;go_wp2_with fail
   go_meet
   obtain⟨h0,h1,h2,h3,h4,h5,h6,h7,h8⟩:=HA.o
   case rel=>exact⟨⟨gq,go,gg,rfl,by rw[h0,h1,h2,h3,h4,h5,h6,h7,h8];exact setRow_heap _ _ _ _ _ _ HFz.o,zb4 HOu.o (λb hb=>setRow_other _ _ _ _ (by cases hb;exact Hq.o.2.2.2.1)),zb4 HMg.o (λb hb=>setRow_other _ _ _ _ (by cases hb;exact Hq.o.2.2.2.2)),Hq.o.1,Hq.o.2.1,Hq.o.2.2.1⟩,hH2⟩
 obtain⟨Q,hs5,hQN,hQc,hQa,hNP⟩:=NPI.start hcut.o es H U;subst hs5;obtain⟨u,hu⟩:=qq (wc);rw[<-hu]at hNP ⊢;have HQ:Hi (Q.N=N/\Q.cap=cap/\Q.a=a):=⟨hQN,hQc,hQa⟩;have HNP:Hi (NPI W Q es H U u 0 0 [] (sZ) (List.replicate N (sZ))):=hNP;clear hu hQN hQc hQa hNP hcut hmk1 hmk2;obtain⟨q0,q1,q2,q3,q4,q5,q6,q7,q8,q9⟩:=CQ (Ok.row' HNP.o.ok HRG.o);go_wp2_with fail;go_loopw [21] (λt21 wr=>∃k:Nat,t21=nI (k:Nat)/\k<=es.length/\Hi (∃sv stv ov,NPI W Q es H U wr k k sv stv ov)) (λt21 _=>((es.length:Int)-intOf t21).toNat)
 case atStart=>exact⟨0,rfl,zL_ _,⟨_,_,_,HNP.o⟩⟩
 clear HNP q0 q1 q2 q3 q4 q5 q6 q7 q8 q9;obtain⟨k,rfl,hk,HR⟩:=hrel;obtain⟨sv,stv,ov,hN⟩:=HR.o;obtain⟨so,sc,rfl⟩:=za0 hN.st;have HN:Hi (NPI W Q es H U wr k k sv (.slice so k sc) ov):=hN;clear hN HR;by_cases hkl:k<es.length
 ·obtain⟨e,he⟩:∃e,es[k]?=some e:=⟨_,gG_ hkl⟩
  obtain⟨n,hfn,hnN⟩:∃n:Nat,e.from'=(n:Int)/\n<N:=⟨e.from'.toNat,by have:=HFR.o e (mG_ he);omega,by have:=HFR.o e (mG_ he);omega⟩;obtain⟨ef,et,eo,ep,eb,el⟩:=e;simp only at hfn;subst hfn;have HEK:Hi (es[k]?=some (⟨(n:Int),et,eo,ep,eb,el⟩:Ed)):=he;have HNN:Hi (n<N):=hnN;have hE:=HE.o;rw[HA.o.2.2.2.2.2.2.2.2]at hE;obtain⟨be,ce,e1,_⟩:=hE.form oM
  injection e1 with e2 e3 e4
  subst e2;clear e3 e4
  have hcl:∀j u,(edV (⟨(n:Int),et,eo,ep,eb,el⟩:Ed))[j]?=some u->wr.cell? ⟨be,k*6+j,none⟩=some u:=λj u hj=>by have h1:=hE.cells (g:=be) rfl (k*6+j) u (zp6 he j u hj);rw[zb7,Nat.zero_add]at h1;exact(HK.o.step HN.o.ok).cell (p:=⟨be,k*6+j,none⟩) (hE.lt be rfl).2 h1
  have r0:wr.cell? ⟨be,k*6,none⟩=_:=hcl 0 _ rfl;have r1:=hcl 1 _ rfl;have r2:=hcl 2 _ rfl;have r3:=hcl 3 _ rfl;have r4:=hcl 4 _ rfl;have r5:=hcl 5 _ rfl;have lbe:be<wr.heap.size:=lL_ (hE.lt be rfl).2 (HK.o.step HN.o.ok).le;have hkI:(k:Int)<(es.length:Int):=za5 hkl;have kw:IntKind.i64.wrap ((k:Int)+1)=((k+1:Nat):Int):=zb3 (by have:=HB.o.2;omega);clear hcl he hE hnN
  go_upto_region 5 with (fail)
  obtain⟨V,hV⟩:=qq (wr.alloc (Obj.cells #[nI (n:Nat),nI et,nI eo,nI ep,.bool eb,.bool el] 59));obtain⟨g7,hg7⟩:=qq (wr.heap.size);rw[<-hV,<-hg7];have HVK:Hi (Ok wr V):=by rw[hV];exact(Ok.refl wr).alloc _
  have HR7:Hi (V.heap[g7]?=some (.cells #[nI (n:Nat),nI et,nI eo,nI ep,Value.bool eb,Value.bool el] 59 (0,0))):=by rw[hV,hg7];exact jj
  have HNV:Hi _:=HN.o.step HVK.o;have HCV:Hi _:=Ok.row' HNV.o.ok HRC.o;clear hV hg7 r0 r1 r2 r3 r4 r5 lbe;have S0:(V.drew.heap[Q.gq]?=some (.cells (Q.row (.slice so k sc)) 139 (0,0))/\V.drew.heap[g7]?=some (.cells #[nI (n:Nat),nI et,nI eo,nI ep,Value.bool eb,Value.bool el] 59 (0,0))/\V.drew.heap[gC]?=some (.cells #[nI H,nI U,nI (cap:Nat),nI c3,nI c4,nI c5,Value.slice tz tn tc,nI c7,nI c8'] 24 (0,0))):=⟨HNV.o.row,HR7.o,HCV.o⟩;refine zd5 (λY=>(Y.heap[Q.gq]?=some (.cells (Q.row (.slice so k sc)) 139 (0,0))/\Y.heap[g7]?=some (.cells #[nI (n:Nat),nI et,nI eo,nI ep,Value.bool eb,Value.bool el] 59 (0,0))/\Y.heap[gC]?=some (.cells #[nI H,nI U,nI (cap:Nat),nI c3,nI c4,nI c5,Value.slice tz tn tc,nI c7,nI c8'] 24 (0,0)))) 9 kR ?_;refine tK 0 (pA Q.gq 10) S0 ?_;simp only[pu];refine tL 1 (.slice so k sc) S0 ?_ ?_
  ·intro w' s0;have z1:w'.cell? (aD Q.gq 10)=some (.slice so k sc):=(cell_of_row _ _ 10 _ _ _ s0.1).trans rfl;have z2:=za2 s0.1;clear s0;go_simp;try with_reducible rfl
  simp only[pu];refine tL 2 (.agg #[nI (n:Nat),nI et,nI eo,nI ep,Value.bool eb,Value.bool el]) S0 ?_ ?_
  ·intro w' s0;obtain⟨z0,z1,z2,z3,z4,z5,z6⟩:=EZ s0.2.1;clear s0;go_simp;try with_reducible rfl
  simp only[pu];refine tK 3 (nI (k:Nat)) S0 ?_;simp only[pu];refine tL 4 (.agg #[nI H,nI U,nI (cap:Nat),nI c3,nI c4,nI c5,Value.slice tz tn tc,nI c7,nI c8']) S0 ?_ ?_
  ·intro w' s0;obtain⟨z0,z1,z2,z3,z4,z5,z6,z7,z8,z9⟩:=CQ s0.2.2;clear s0;go_simp;try with_reducible rfl
  simp only[pu];refine zb0 (i:=5) kR rfl (λK hK=>?_);go_simp;refine(zK2 ⟨(n:Int),et,eo,ep,eb,el⟩ k H U (cap:Int) c3 c4 c5 c7 c8' (.slice tz tn tc) V.drew).mono ?_;rintro e1 D1 ⟨v,rfl,hd,hk1,hcap⟩;have HK1:Hi (Ok V D1):=Ok.step (Below.drew (Ok.refl V)) hk1;have HD1:Hi (EJ D1 v H U ⟨(n:Int),et,eo,ep,eb,el⟩ k):=hd;have HCA:Hi (∀b∈FD v,V.heap.size<=b):=hcap;obtain⟨fid,caps,rfl⟩:=hd.form;clear hd hk1 hcap;have HN1:Hi _:=HNV.o.step HK1.o;have HC1:Hi _:=Ok.row' HK1.o HCV.o;have H71:Hi _:=Ok.row' HK1.o HR7.o;refine hK.out _ _ (λ_=>⟨HN1.o.row,H71.o,HC1.o⟩) ?_;clear hK K S0
  try simp only[pu]
  refine zb0 (i:=6) kR rfl (λK hK=>?_);go_simp;obtain⟨W4,hW4⟩:=qq (D1.alloc (Obj.cells #[Value.func (Fn.func fid) #[] caps] 61));have HK4:Hi (Ok D1 W4):=by rw[hW4];exact(Ok.refl D1).alloc _
  have HSL:Hi (SL W4 1 (.slice (sA D1.heap.size 0) 1 1) 1 [Value.func (Fn.func fid) #[] caps]):=by rw[hW4];exact SL.one D1 61 [Value.func (Fn.func fid) #[] caps] rfl (by simp[Value.oneCell'])
  rw[<-hW4];clear hW4;have HN4:Hi _:=HN1.o.step HK4.o;have HC4:Hi _:=Ok.row' HK4.o HC1.o;have H74:Hi _:=Ok.row' HK4.o H71.o;refine hK.out _ _ (λ_=>⟨HN4.o.row,H74.o,HC4.o⟩) ?_;clear hK K;refine zb0 (i:=7) kR rfl (λK hK=>?_);refine zj0 rfl _ _ 136 61 1 8 _ rfl Tryz.underlying136 wq9 (by rfl) dC dC W.heap.size (.slice so k sc) k sv (by rfl) HN4.o.st (.slice (sA D1.heap.size 0) 1 1) 1 [Value.func (Fn.func fid) #[] caps] (by rfl) HSL.o (by have:=HB.o.2;omega) HN4.o.ok.le ?_;intro v9 w9 k1 k2;have HV9:Hi (w9.ownsRow W.heap.size 61 1 v9 (k+1) (sv++[Value.func (Fn.func fid) #[] caps])):=k1;have HG9:Hi _:=k2;obtain⟨vo9,vc9,rfl⟩:=za0 k1;have HP9:Hi (w9.heap[Q.gq]?=some (.cells (Q.row (.slice so k sc)) 139 (0,0))):=(k2.block Q.gq (za2 HN4.o.row) (λe=>zb6 HN4.o.st HN4.o.row dC e.symm)).trans HN4.o.row;have H79:Hi (w9.heap[g7]?=some (.cells #[nI (n:Nat),nI et,nI eo,nI ep,Value.bool eb,Value.bool el] 59 (0,0))):=(k2.block g7 (za2 H74.o) (λe=>zb6 HN4.o.st H74.o dC e.symm)).trans H74.o;have HC9:Hi (w9.heap[gC]?=some (.cells #[nI H,nI U,nI (cap:Nat),nI c3,nI c4,nI c5,Value.slice tz tn tc,nI c7,nI c8'] 24 (0,0))):=(k2.block gC (za2 HC4.o) (λe=>zb6 HN4.o.st HC4.o dC e.symm)).trans HC4.o;clear k1 k2;refine hK.out _ _ (λ_=>⟨HP9.o,H79.o,HC9.o⟩) ?_;clear hK K;simp only[pu];refine zb0 (i:=8) kR rfl (λK hK=>?_);go_simp;refine hK.out _ _ (λ_=>⟨HP9.o,H79.o,HC9.o⟩) ?_;clear hK K;have d10:w9.cell? (aD Q.gq 10)=some (.slice so k sc):=(cell_of_row _ _ 10 _ _ _ HP9.o).trans rfl;have d11:w9.frozen? (aD Q.gq 10)=false:=frozen_of_row _ _ _ _ _ HP9.o;have lgq:=za2 HP9.o;refine zb0 (i:=9) kR rfl (λK hK=>?_);go_simp;refine hK.out _ _ (λh=>absurd rfl h) ?_;clear hK K;refine zd4 kR ?_ _
  have HN5:Hi _:=HN4.o.addStep HEK.o (HD1.o.ok HK4.o) (λb hb n' u hu=>by
   intro e9;obtain⟨x,h1,h2⟩:=HN4.o.orow n' (by have h3:=HN4.o.ou.1;have h4:=(List.getElem?_eq_some_iff.1 hu).1;omega);obtain⟨y,h5,h6⟩:=HNV.o.orow n' (by have h3:=HN4.o.ou.1;have h4:=(List.getElem?_eq_some_iff.1 hu).1;omega);rw[hu]at h5
   injection h5 with h5
   subst h5;have h7:=(h6.lt b e9).2;have h8:=HCA.o b hb
   omega) HV9.o HG9.o
  obtain⟨V5,hV5⟩:=qq (w9.setCell ⟨Q.gq,10,none⟩ (.slice vo9 (k+1) vc9))
  have H75:Hi _:=zk3 H79.o (p:=⟨Q.gq,10,none⟩) (λe=>by
   have e1:g7=Q.gq:=e;have h1:=H79.o;rw[e1,HP9.o]at h1
   injection h1 with h1
   injection h1 with _ h1
   exact absurd h1 dC) (.slice vo9 (k+1) vc9)
  rw[<-hV5]at HN5 H75;rw[<-hV5];clear hV5 d10 d11 lgq HP9 H79 HC9 HV9 HG9 HN4 HC4 H74 HN1 HC1 H71 HD1 HCA HSL HK4 HK1;obtain⟨u0,hu0,hou0⟩:=HN5.o.orow n (by rw[HQ.o.1];exact HNN.o);have HOU:Hi (ov[n]?=some u0/\V5.ownsRow W.heap.size 3 1 u0 (CZ es (n:Int) k).length (ilL (CZ es (n:Int) k))):=⟨hu0,hou0⟩;obtain⟨uo,uc,e1⟩:=za0 hou0;obtain⟨un,hun⟩:=qq ((CZ es (n:Int) k).length);rw[<-hun]at e1;have HUN:Hi (u0=.slice uo un uc/\un=(CZ es (n:Int) k).length):=⟨e1,hun⟩;have rgo:V5.cell? (aD Q.go n)=some (.slice uo un uc):=by have h1:=HN5.o.ou.cells (g:=Q.go) rfl n _ hu0;rw[zb7,Nat.zero_add,e1]at h1;exact h1
  have lgo:Q.go<V5.heap.size:=(HN5.o.ou.lt Q.go rfl).2;clear hu0 hou0 hun e1;obtain⟨stv6,hst6⟩:=qq (Value.slice vo9 (k+1) vc9);rw[<-hst6]at HN5
  go_upto_region 6 with (fail)
  have S0:(V5.drew.heap[Q.gq]?=some (.cells (Q.row stv6) 139 (0,0))/\V5.drew.heap[g7]?=some (.cells #[nI (n:Nat),nI et,nI eo,nI ep,Value.bool eb,Value.bool el] 59 (0,0))/\V5.drew.cell? (aD Q.go n)=some (.slice uo un uc)/\Q.go<V5.drew.heap.size):=⟨HN5.o.row,H75.o,rgo,lgo⟩;refine zd5 (λY=>(Y.heap[Q.gq]?=some (.cells (Q.row stv6) 139 (0,0))/\Y.heap[g7]?=some (.cells #[nI (n:Nat),nI et,nI eo,nI ep,Value.bool eb,Value.bool el] 59 (0,0))/\Y.cell? (aD Q.go n)=some (.slice uo un uc)/\Q.go<Y.heap.size)) 14 kR ?_;have hnI:(n:Int)<(Q.N:Int):=by have h1:=HNN.o;have h2:=HQ.o.1;omega
  refine tK 0 (pA Q.gq 11) S0 ?_;simp only[pu];refine tL 1 (.slice (sA Q.go 0) Q.N Q.N) S0 ?_ ?_
  ·intro w' s0;have z1:w'.cell? (aD Q.gq 11)=some (.slice (sA Q.go 0) Q.N Q.N):=(cell_of_row _ _ 11 _ _ _ s0.1).trans rfl;have z2:=za2 s0.1;clear s0;go_simp;try with_reducible rfl
  simp only[pu];refine tK 2 (pA g7 0) S0 ?_;simp only[pu];refine tL 3 (nI (n:Nat)) S0 ?_ ?_
  ·intro w' s0;obtain⟨z0,z1,z2,z3,z4,z5,z6⟩:=EZ s0.2.1;clear s0;go_simp;try with_reducible rfl
  simp only[pu];refine tK 4 (pA Q.gq 11) S0 ?_;simp only[pu];refine tL 5 (.slice (sA Q.go 0) Q.N Q.N) S0 ?_ ?_
  ·intro w' s0;have z1:w'.cell? (aD Q.gq 11)=some (.slice (sA Q.go 0) Q.N Q.N):=(cell_of_row _ _ 11 _ _ _ s0.1).trans rfl;have z2:=za2 s0.1;clear s0;go_simp;try with_reducible rfl
  simp only[pu];refine tK 6 (pA g7 0) S0 ?_;simp only[pu];refine tL 7 (nI (n:Nat)) S0 ?_ ?_
  ·intro w' s0;obtain⟨z0,z1,z2,z3,z4,z5,z6⟩:=EZ s0.2.1;clear s0;go_simp;try with_reducible rfl
  simp only[pu];refine tK 8 (pA Q.go n) S0 ?_;simp only[pu];refine tL 9 (.slice uo un uc) S0 ?_ ?_
  ·intro w' s0;obtain⟨-,-,z3,z4⟩:=s0;go_simp;try with_reducible rfl
  simp only[pu];refine tK 10 (nI (k:Nat)) S0 ?_;simp only[pu];refine zb0 (i:=11) kR rfl (λK hK=>?_);go_simp;obtain⟨W6,hW6⟩:=qq ((V5.alloc (Obj.cells #[nI (k:Nat)] 3)).drew);have HK6:Hi (Ok V5 W6):=by rw[hW6];exact Below.drew ((Ok.refl V5).alloc _)
  have HSL6:Hi (SL W6 1 (.slice (sA V5.heap.size 0) 1 1) 1 [nI (k:Nat)]):=by rw[hW6];exact SL.one V5 3 [nI (k:Nat)] rfl (by simp[Value.oneCell'])
  rw[<-hW6];clear hW6 S0 rgo lgo;have HN6':Hi _:=HN5.o.step HK6.o;have H76:Hi _:=Ok.row' HK6.o H75.o;have HO6:Hi (W6.ownsRow W.heap.size 3 1 (.slice uo un uc) un (ilL (CZ es (n:Int) k))):=by have h1:=za1 HOU.o.2 HK6.o;rw[HUN.o.1,<-HUN.o.2]at h1;exact h1
  have HU6:Hi (ov[n]?=some (.slice uo un uc)):=by have h1:=HOU.o.1;rw[HUN.o.1]at h1;exact h1
  have rgo:W6.cell? (aD Q.go n)=some (.slice uo un uc):=by have h1:=HN6'.o.ou.cells (g:=Q.go) rfl n _ HU6.o;rw[zb7,Nat.zero_add]at h1;exact h1
  have lgo:Q.go<W6.heap.size:=(HN6'.o.ou.lt Q.go rfl).2;refine hK.out _ _ (λ_=>⟨HN6'.o.row,H76.o,rgo,lgo⟩) ?_;clear hK K;refine zb0 (i:=12) kR rfl (λK hK=>?_);refine zn6 rfl _ _ 25 3 1 8 _ rfl Tryz.underlying25 wb1 (by rfl) (by decide) (by decide) W.heap.size (.slice uo un uc) un (ilL (CZ es (n:Int) k)) (by rfl) HO6.o (.slice (sA V5.heap.size 0) 1 1) 1 [nI (k:Nat)] (by rfl) HSL6.o (by decide) (by have h1:=HUN.o.2;have h2:=yz3 es (n:Int) k;have h3:=HB.o.2;unfold CZ at h1;rw[List.length_map]at h1;omega) HN6'.o.ok.le ?_;intro v8 w8 k1 k2 k3;have HV8:Hi (w8.ownsRow W.heap.size 3 1 v8 (un+1) (ilL (CZ es (n:Int) k)++[nI (k:Nat)])):=k1;have HG8:Hi _:=k2;have HA8:Hi _:=k3;obtain⟨vo8,vc8,rfl⟩:=za0 k1;obtain⟨cg,fg,hgo⟩:=zf9 HN6'.o.ou Q.go rfl;have HP8:Hi (w8.heap[Q.gq]?=some (.cells (Q.row stv6) 139 (0,0))):=(k2.block Q.gq (za2 HN6'.o.row) (λe=>zb6 HO6.o HN6'.o.row dC e.symm)).trans HN6'.o.row;have H78:Hi (w8.heap[g7]?=some (.cells #[nI (n:Nat),nI et,nI eo,nI ep,Value.bool eb,Value.bool el] 59 (0,0))):=(k2.block g7 (za2 H76.o) (λe=>zb6 HO6.o H76.o dC e.symm)).trans H76.o;have HGO:Hi (w8.heap[Q.go]?=W6.heap[Q.go]?):=k2.block Q.go (za2 hgo) (λe=>zb6 HO6.o hgo dC e.symm);have HO8:Hi (w8.ownsRow W.heap.size 25 1 (.slice (sA Q.go 0) Q.N Q.N) Q.N ov):=zb4 HN6'.o.ou λb hb=>by cases hb;exact HGO.o
  clear k1 k2 k3 hgo rgo lgo;have rgo:w8.cell? (aD Q.go n)=some (.slice uo un uc):=by have h1:=HO8.o.cells (g:=Q.go) rfl n _ HU6.o;rw[zb7,Nat.zero_add]at h1;exact h1
  have lgo:Q.go<w8.heap.size:=(HO8.o.lt Q.go rfl).2
  have fgo:w8.frozen? (aD Q.go n)=false:=by
   rcases HO8.o.2 with ⟨e1,_⟩ | ⟨g',cp,cur,e1,_,hgg,_⟩
   ·cases e1
   injection e1 with e5 _ _
   injection e5 with e5
   injection e5 with e5
   rw[<-e5]at hgg;exact frozen_of_row _ _ _ _ _ hgg
  refine hK.out _ _ (λ_=>⟨HP8.o,H78.o,rgo,lgo⟩) ?_;clear hK K;simp only[pu];refine zb0 (i:=13) kR rfl (λK hK=>?_);go_simp;refine hK.out _ _ (λ_=>⟨HP8.o,H78.o,rgo,lgo⟩) ?_;clear hK K;refine zb0 (i:=14) kR rfl (λK hK=>?_);go_simp;refine hK.out _ _ (λh=>absurd rfl h) ?_;clear hK K;refine zd4 kR ?_ _;have HNE:Hi _:=HN6'.o.addOut (u:=.slice uo un uc) (by rw[HQ.o.1];exact HNN.o) HEK.o rfl HU6.o (by rw[<-HUN.o.2];exact HO6.o) (by rw[<-HUN.o.2];exact HV8.o) HG8.o HA8.o;clear rgo lgo fgo;go_wp2_with fail;exact⟨⟨k+1,rfl,hkl,⟨_,_,_,HNE.o⟩⟩,by show((es.length:Int)-((k:Int)+1)).toNat<((es.length:Int)-(k:Int)).toNat;omega⟩
 have hkI:¬(k:Int)<(es.length:Int):=zb2 hkl;have hke:k=es.length:=oM
 have HPR:Hi (wr.heap[Q.gq]?=some (.cells #[Value.slice g0 n0 k0,Value.slice g1 n1 k1,Value.slice g2 n2 k2,Value.slice g3 n3 k3,Value.slice g4 n4 k4,Value.slice g5 n5 k5,nI (N:Nat),nI x7,Value.slice o8 es.length c8,nI (cap:Nat),Value.slice so k sc,Value.slice (sA Q.go 0) N N,Value.slice (sA Q.gg 0) N N] 139 (0,0))):=by have h1:=HN.o.row;unfold wh7.row at h1;rw[HQ.o.1,HQ.o.2.1,HQ.o.2.2,HA.o.1,HA.o.2.1,HA.o.2.2.1,HA.o.2.2.2.1,HA.o.2.2.2.2.1,HA.o.2.2.2.2.2.1,HA.o.2.2.2.2.2.2.1,HA.o.2.2.2.2.2.2.2.1,HA.o.2.2.2.2.2.2.2.2]at h1;exact h1
 have HRR1:Hi _:=Ok.row' HN.o.ok HRR.o;obtain⟨p0,p1,p2,p3,p4,p5,p6,p7,p8,p9,p10,p11,p12,lgq⟩:=wc8 HPR.o;have HKE:Hi (k=es.length):=hke;clear hke hkl hk
 go_wp2_with (first|(refine za8 rfl 139 _ _ rfl gR 139 _ #[Value.slice g0 n0 k0,Value.slice g1 n1 k1,Value.slice g2 n2 k2,Value.slice g3 n3 k3,Value.slice g4 n4 k4,Value.slice g5 n5 k5,nI (N:Nat),nI x7,Value.slice o8 es.length c8,nI (cap:Nat),Value.slice so k sc,Value.slice (sA Q.go 0) N N,Value.slice (sA Q.gg 0) N N] (by rfl) (by rfl) HRR1.o wk9 rfl (by simp[Value.oneCell']) ?_)|fail)
 (try simp only[Exit.inBlock,Exit.then]);refine bodyPost_ret (results_cell_row rfl _ _ gR 139 #[Value.slice g0 n0 k0,Value.slice g1 n1 k1,Value.slice g2 n2 k2,Value.slice g3 n3 k3,Value.slice g4 n4 k4,Value.slice g5 n5 k5,nI (N:Nat),nI x7,Value.slice o8 es.length c8,nI (cap:Nat),Value.slice so k sc,Value.slice (sA Q.go 0) N N,Value.slice (sA Q.gg 0) N N] (0,0) _ rfl (setRow_heap _ _ _ _ _ _ HRR1.o) Tryz.underlying139 rfl wk9) rfl ?_;have hgR:gR<W.heap.size:=HG.o.2.2.2.2.2;have hge:∀b,W.heap.size<=b->(wr.setRow gR #[Value.slice g0 n0 k0,Value.slice g1 n1 k1,Value.slice g2 n2 k2,Value.slice g3 n3 k3,Value.slice g4 n4 k4,Value.slice g5 n5 k5,nI (N:Nat),nI x7,Value.slice o8 es.length c8,nI (cap:Nat),Value.slice so k sc,Value.slice (sA Q.go 0) N N,Value.slice (sA Q.gg 0) N N]).heap[b]?=wr.heap[b]?:=λb hb=>setRow_other _ _ _ _ oM;have hNE:=HN.o;rw[HKE.o]at hNE;refine⟨(λi=>match i with | 0=>Value.slice g0 n0 k0 | 1=>Value.slice g1 n1 k1 | 2=>Value.slice g2 n2 k2 | 3=>Value.slice g3 n3 k3 | 4=>Value.slice g4 n4 k4 | 5=>Value.slice g5 n5 k5 | 6=>nI (N:Nat) | 7=>nI x7 | 8=>Value.slice o8 es.length c8 | 9=>nI (cap:Nat) | 10=>Value.slice so k sc | 11=>Value.slice (sA Q.go 0) N N | _=>Value.slice (sA Q.gg 0) N N),Q.gg,rfl,⟨rfl,λi hi=>?_,⟨_,rfl⟩,?_,rfl,⟨sv,?_,?_⟩,⟨ov,?_,?_⟩,rfl,?_⟩,zd0 (HK.o.step HN.o.ok) HG.o.2.2.1 _⟩
 ·match i,hi with
  | 0,_=>exact⟨_,_,_,rfl⟩
  | 1,_=>exact⟨_,_,_,rfl⟩
  | 2,_=>exact⟨_,_,_,rfl⟩
  | 3,_=>exact⟨_,_,_,rfl⟩
  | 4,_=>exact⟨_,_,_,rfl⟩
  | 5,_=>exact⟨_,_,_,rfl⟩
 ·have h1:=HE.o
  rw[HA.o.2.2.2.2.2.2.2.2]at h1;exact zb4 (za1 h1 (HK.o.step HN.o.ok)) λb hb=>setRow_other _ _ _ _ (by have:=(h1.lt b hb).2;have:=HG.o;omega)
 ·show World.ownsRow _ _ _ _ (Value.slice so k sc) es.length sv
  have h1:=za7 hNE.st HK.o.le;rw[HKE.o]at hge ⊢;exact zb4 h1 λb hb=>hge b (hNE.st.lt b hb).1
 ·intro i e he
  obtain⟨v,h1,h2⟩:=hNE.sd i e (List.getElem?_eq_some_iff.1 he).1 he;exact⟨v,h1,h2.far λb hb ⟨c,f,hr⟩=>setRow_other _ _ _ _ (λe9=>by rw[e9,HRR1.o]at hr;injection hr with hr;injection hr with _ hr;exact absurd hr (by decide))⟩
 ·have h1:=za7 hNE.ou HK.o.le
  rw[HQ.o.1]at h1;exact zb4 h1 λb hb=>hge b (by cases hb;exact hNE.base.2.1)
 ·intro n hn
  obtain⟨v,h1,h2⟩:=hNE.orow n (by rw[HQ.o.1];exact hn);rw[yc6]at h2;exact⟨v,h1,za7 (zb4 h2 λb hb=>hge b (h2.lt b hb).1) HK.o.le⟩
 have h1:=za7 hNE.mg HK.o.le;rw[HQ.o.1]at h1
 have e:mgB N (DU cap H U es [])=List.replicate N (.bool false):=by
  unfold mgB DU;apply List.ext_getElem?;intro i;simp only[List.getElem?_map,List.getElem?_replicate];by_cases h:i<N
  ·rw[List.getElem?_range h,if_pos h];simp
  rw[List.getElem?_eq_none (by simp;omega),if_neg h];rfl
 rw[e];exact zb4 h1 λb hb=>hge b (by cases hb;exact hNE.base.2.2)
end Go.Proofs.YtpongdpnbclchaaGreatDoor
