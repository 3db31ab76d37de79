import Derived.Test.YtbneneijdgcccaaGreatDoorKGj0
set_option linter.all false
set_option maxRecDepth 100000
namespace Go.Proofs.YtbneneijdgcccaaGreatDoor
open Go.RowKit Go.Maps
theorem infPt:(Tryz.prog.info? 35).map (·.size)=some 3:=by kernel_rfl
theorem zt2 {W D:World} (h:Ok W D):∃ (E:World) (g:Nat),(D.alloc (.map #[] 0)=E/\D.heap.size=g)/\Ok D E/\Ok W E/\Hi (MapF E 9 g 0 (fun _=>Option.none))/\Hi (D.heap.size<=g/\g<E.heap.size) :=
 ⟨_,_,⟨rfl,rfl⟩,(Ok.refl D).alloc _,h.alloc _,MapF.made D 9,Nat.le_refl _,by simp⟩
theorem zt3 {W D:World} (h:Ok W D) {N:Nat} (hN:N<=1000000):∃ (E:World) (g:Nat),(D.alloc (.cells (madeCells #[.int .i64 0] N) 3)=E/\D.heap.size=g)/\Ok D E/\Ok W E/\Hi (E.ownsRow W.heap.size 3 1 (.slice (some ⟨g,0,none⟩) N N) N (ilL (List.replicate N 0)))/\Hi (D.heap.size<=g/\g<E.heap.size) :=
 ⟨_,_,⟨rfl,rfl⟩,(Ok.refl D).alloc _,h.alloc _,yo3 D W.heap.size N h.le hN,Nat.le_refl _,by simp⟩
theorem yc1 {W D:World} (h:Ok W D) (cs:Array Value) (t:TypeId):∃ (E:World) (g:Nat),(D.alloc (.cells cs t)=E/\D.heap.size=g)/\Ok D E/\Ok W E/\Hi (E.heap[g]?=some (.cells cs t (0,0)))/\Hi (D.heap.size<=g/\g<E.heap.size) :=
 ⟨_,_,⟨rfl,rfl⟩,(Ok.refl D).alloc _,h.alloc _,za3 _ _,Nat.le_refl _,by simp⟩
theorem zt4 {W D:World} (h:Ok W D):∃ (E:World) (g:Nat),(D.alloc (.cells #[.slice none 0 0,.slice none 0 0,.slice none 0 0,.slice none 0 0,.slice none 0 0,.slice none 0 0,.int .i64 0,.int .i64 0,.slice none 0 0,.int .i64 0,.slice none 0 0,.slice none 0 0,.slice none 0 0,.slice none 0 0,.slice none 0 0,.map none,.slice none 0 0] 208)=E/\D.heap.size=g)/\Ok D E/\Ok W E/\Hi (E.heap[g]?=some (.cells #[.slice none 0 0,.slice none 0 0,.slice none 0 0,.slice none 0 0,.slice none 0 0,.slice none 0 0,.int .i64 0,.int .i64 0,.slice none 0 0,.int .i64 0,.slice none 0 0,.slice none 0 0,.slice none 0 0,.slice none 0 0,.slice none 0 0,.map none,.slice none 0 0] 208 (0,0)))/\Hi (D.heap.size<=g/\g<E.heap.size):=yc1 h _ _
set_option maxHeartbeats 8000000 in
theorem yo1 (a:Nat->Value) (N:Nat) (p:Pl) (f:Nat) (w:World) (h:PI w a N p) (hp:PB N p) (hf:N*p.cap<f) (hT:Lib.TabBelow Tryz.prog w.heap.size w "internal/strconv.uint64pow10" .u64 Lib.pow10Tab) :
  Calls Tryz.prog 59 #[.agg #[a 0,a 1,a 2,a 3,a 4,a 5,a 6,a 7,a 8,a 9,a 10,a 11,a 12]] w fun e w'=>FdIs w p f e w':=by
 have HP:=hid h
 have HB:=hid hp
 have HF:=hid hf
 have HTB:=hid hT
 obtain ⟨g0,n0,k0,ha0⟩:=h.sls 0 (by omega)
 obtain ⟨g1,n1,k1,ha1⟩:=h.sls 1 (by omega)
 obtain ⟨g2,n2,k2,ha2⟩:=h.sls 2 (by omega)
 obtain ⟨g3,n3,k3,ha3⟩:=h.sls 3 (by omega)
 obtain ⟨g4,n4,k4,ha4⟩:=h.sls 4 (by omega)
 obtain ⟨g5,n5,k5,ha5⟩:=h.sls 5 (by omega)
 obtain ⟨x7,ha7⟩:=h.exi
 obtain ⟨_,_,o8,c8,e8,_⟩:=h.edges
 obtain ⟨sv,⟨_,_,o10,c10,e10,_⟩,_⟩:=h.steps
 obtain ⟨ov,⟨_,_,o11,c11,e11,_⟩,_⟩:=h.outs
 obtain ⟨_,_,o12,c12,e12,_⟩:=h.mrg
 have HA:Hi (a 0=.slice g0 n0 k0/\a 1=.slice g1 n1 k1/\a 2=.slice g2 n2 k2/\a 3=.slice g3 n3 k3/\a 4=.slice g4 n4 k4/\a 5=.slice g5 n5 k5/\a 7=.int .i64 x7/\a 6=.int .i64 (N:Nat)/\a 8=.slice o8 p.es.length c8/\a 9=.int .i64 (p.cap:Nat)/\a 10=.slice o10 p.es.length c10/\a 11=.slice o11 N c11/\a 12=.slice o12 N c12):=⟨ha0,ha1,ha2,ha3,ha4,ha5,ha7,h.nodes,e8,h.cap,e10,e11,e12⟩
 rw [ha0,ha1,ha2,ha3,ha4,ha5,ha7,h.nodes,e8,h.cap,e10,e11,e12]
 clear h hp hf hT ha0 ha1 ha2 ha3 ha4 ha5 ha7 e8 e10 e11 e12
 have HN6:Hi (N<=1000000):=by have:=HB.o.small.1;unfold Hi;omega
 have hmm:=@run_makeMap Tryz.prog
 have hmk:=run_make_row' (P:=Tryz.prog) 28 3 (.int .i64 0) 8 Tryz.underlying28 infIn rfl .i64 .i64 N (by have:=HB.o.small.1;omega) (by have:=HB.o.small.1;omega)
 go_enter Tryz.func59,Tryz.ntmps59
 go_upto_region 1 with (fail)
 obtain ⟨W,hW⟩:=qq ((w.alloc (Obj.cells #[.slice g0 n0 k0,.slice g1 n1 k1,.slice g2 n2 k2,.slice g3 n3 k3,.slice g4 n4 k4,.slice g5 n5 k5,.int .i64 (N:Nat),.int .i64 x7,.slice o8 p.es.length c8,.int .i64 (p.cap:Nat),.slice o10 p.es.length c10,.slice o11 N c11,.slice o12 N c12] 99)).alloc (Obj.cells #[.slice none 0 0,.slice none 0 0,.slice none 0 0] 35))
 obtain ⟨gp,hgp⟩:=qq (w.heap.size)
 obtain ⟨gr,hgr⟩:=qq (w.heap.size+1)
 rw [<-hW,<-hgr,<-hgp]
 have HK:Hi (Ok w W):=by rw [hW];exact ((Ok.refl w).alloc _).alloc _
 have HRP:Hi (W.heap[gp]?=some (.cells #[Value.slice g0 n0 k0,Value.slice g1 n1 k1,Value.slice g2 n2 k2,Value.slice g3 n3 k3,Value.slice g4 n4 k4,Value.slice g5 n5 k5,Value.int IntKind.i64 (N:Nat),Value.int IntKind.i64 x7,Value.slice o8 p.es.length c8,Value.int IntKind.i64 (p.cap:Nat),Value.slice o10 p.es.length c10,Value.slice o11 N c11,Value.slice o12 N c12] 99 (0,0))):=by rw [hW,hgp];exact jj
 have HRR:Hi (W.heap[gr]?=some (.cells #[Value.slice none 0 0,Value.slice none 0 0,Value.slice none 0 0] 35 (0,0))):=by rw [hW,hgr];exact jj
 have HG:Hi (w.heap.size<=gp/\w.heap.size<=gr/\gp<W.heap.size/\gr<W.heap.size):=by unfold Hi;rw [hW];simp;omega
 clear hW hgp hgr
 obtain ⟨p0,p1,p2,p3,p4,p5,p6,p7,p8,p9,p10,p11,p12,lgp⟩:=row13 HRP.o
 go_cut [3] from 9 to 15 (fun s3 u=>Hi (F0 W u a N s3))
 case first =>
  refine wp_region_held_drew (S:=fun w'=>Ok W w') (by kernel_rfl) (Below.drew (Ok.refl _)) (fun hH=>?_)
  obtain ⟨D,hD⟩:=qq (W.drew)
  rw [<-hD] at hH ⊢
  clear hD p0 p1 p2 p3 p4 p5 p6 p7 p8 p9 p10 p11 p12 lgp
  refine tH 0 (.agg #[.slice g0 n0 k0,.slice g1 n1 k1,.slice g2 n2 k2,.slice g3 n3 k3,.slice g4 n4 k4,.slice g5 n5 k5,.int .i64 (N:Nat),.int .i64 x7,.slice o8 p.es.length c8,.int .i64 (p.cap:Nat),.slice o10 p.es.length c10,.slice o11 N c11,.slice o12 N c12]) ?_ hH ?_
  ·intro w' s0;obtain ⟨q0,q1,q2,q3,q4,q5,q6,q7,q8,q9,q10,q11,q12,q13⟩:=row13 (Ok.row' s0 HRP.o);clear s0;go_simp;try with_reducible rfl
  (try simp only [pu])
  refine tH 2 (.pointer (some ⟨gp,0,none⟩)) ?_ hH ?_
  ·intro w' s0;clear s0;go_simp;try with_reducible rfl
  (try simp only [pu])
  refine tH 3 (.pointer (some ⟨gp,6,none⟩)) ?_ hH ?_
  ·intro w' s0;clear s0;go_simp;try with_reducible rfl
  (try simp only [pu])
  refine tH 4 (.int .i64 (N:Nat)) ?_ hH ?_
  ·intro w' s0;obtain ⟨q0,q1,q2,q3,q4,q5,q6,q7,q8,q9,q10,q11,q12,q13⟩:=row13 (Ok.row' s0 HRP.o);clear s0;go_simp;try with_reducible rfl
  (try simp only [pu])
  have HD0:Hi (W.heap.size<=D.heap.size):=hH.le
  refine wpAnyH_ready (rs:=[1,5,7]) (by kernel_rfl) (by simp) ?_
  refine AllReadyH.cons rfl (fun K hK=>?_) (AllReadyH.cons rfl (fun K hK=>?_) (AllReadyH.cons rfl (fun K hK=>?_) AllReadyH.nil))
  go_simp
  obtain ⟨X1,gm,hn,hx,hb,HMp,Lgm⟩:=zt2 hH
  rw [hn.1,hn.2]
  refine hK.out _ _ hb (fun hH=>?_)
  clear hK K hn hb hx
  (try simp only [pu])
  refine wpAnyH_ready (rs:=[5,7]) (by kernel_rfl) (by simp) ?_
  refine AllReadyH.cons rfl (fun K hK=>?_) (AllReadyH.cons rfl (fun K hK=>?_) AllReadyH.nil)
  go_simp
  obtain ⟨X2,gt,hn,hx,hb,HTk,Lgt⟩:=zt3 hH HN6.o
  rw [hn.1,hn.2]
  replace HMp:Hi (MapF X2 9 gm 0 (fun _=>Option.none)):=HMp.o.ok hx
  refine hK.out _ _ hb (fun hH=>?_)
  clear hK K hn hb hx
  (try simp only [pu])
  refine tH 6 (.agg #[.slice g0 n0 k0,.slice g1 n1 k1,.slice g2 n2 k2,.slice g3 n3 k3,.slice g4 n4 k4,.slice g5 n5 k5,.int .i64 (N:Nat),.int .i64 x7,.slice o8 p.es.length c8,.int .i64 (p.cap:Nat),.slice o10 p.es.length c10,.slice o11 N c11,.slice o12 N c12,.slice none 0 0,.slice none 0 0,.map (some gm),.slice (some ⟨gt,0,none⟩) N N]) ?_ hH ?_
  ·intro w' s0;clear s0;go_simp;try with_reducible rfl
  (try simp only [pu])
  refine wpAnyH_ready (rs:=[7]) (by kernel_rfl) (by simp) ?_
  refine AllReadyH.cons rfl (fun K hK=>?_) AllReadyH.nil
  go_simp
  obtain ⟨X3,gf,hn,hx,hb,HFz,Lgf⟩:=zt4 hH
  rw [hn.1,hn.2]
  replace HMp:Hi (MapF X3 9 gm 0 (fun _=>Option.none)):=HMp.o.ok hx
  replace HTk:Hi _:=za1 HTk.o hx
  refine hK.out _ _ hb (fun hH=>?_)
  clear hK K hn hb hx
  (try simp only [pu])
  rotate_left
  go_simp
  obtain ⟨X2,gf,hn,hx,hb,HFz,Lgf⟩:=zt4 hH
  rw [hn.1,hn.2]
  replace HMp:Hi (MapF X2 9 gm 0 (fun _=>Option.none)):=HMp.o.ok hx
  refine hK.out _ _ hb (fun hH=>?_)
  clear hK K hn hb hx
  (try simp only [pu])
  refine wpAnyH_ready (rs:=[5]) (by kernel_rfl) (by simp) ?_
  refine AllReadyH.cons rfl (fun K hK=>?_) AllReadyH.nil
  go_simp
  obtain ⟨X3,gt,hn,hx,hb,HTk,Lgt⟩:=zt3 hH HN6.o
  rw [hn.1,hn.2]
  replace HMp:Hi (MapF X3 9 gm 0 (fun _=>Option.none)):=HMp.o.ok hx
  replace HFz:Hi _:=Ok.row' hx HFz.o
  refine hK.out _ _ hb (fun hH=>?_)
  clear hK K hn hb hx
  (try simp only [pu])
  refine tH 6 (.agg #[.slice g0 n0 k0,.slice g1 n1 k1,.slice g2 n2 k2,.slice g3 n3 k3,.slice g4 n4 k4,.slice g5 n5 k5,.int .i64 (N:Nat),.int .i64 x7,.slice o8 p.es.length c8,.int .i64 (p.cap:Nat),.slice o10 p.es.length c10,.slice o11 N c11,.slice o12 N c12,.slice none 0 0,.slice none 0 0,.map (some gm),.slice (some ⟨gt,0,none⟩) N N]) ?_ hH ?_
  ·intro w' s0;clear s0;go_simp;try with_reducible rfl
  (try simp only [pu])
  rotate_left
  go_simp
  obtain ⟨X1,gt,hn,hx,hb,HTk,Lgt⟩:=zt3 hH HN6.o
  rw [hn.1,hn.2]
  refine hK.out _ _ hb (fun hH=>?_)
  clear hK K hn hb hx
  (try simp only [pu])
  refine wpAnyH_ready (rs:=[1,7]) (by kernel_rfl) (by simp) ?_
  refine AllReadyH.cons rfl (fun K hK=>?_) (AllReadyH.cons rfl (fun K hK=>?_) AllReadyH.nil)
  go_simp
  obtain ⟨X2,gm,hn,hx,hb,HMp,Lgm⟩:=zt2 hH
  rw [hn.1,hn.2]
  replace HTk:Hi _:=za1 HTk.o hx
  refine hK.out _ _ hb (fun hH=>?_)
  clear hK K hn hb hx
  (try simp only [pu])
  refine tH 6 (.agg #[.slice g0 n0 k0,.slice g1 n1 k1,.slice g2 n2 k2,.slice g3 n3 k3,.slice g4 n4 k4,.slice g5 n5 k5,.int .i64 (N:Nat),.int .i64 x7,.slice o8 p.es.length c8,.int .i64 (p.cap:Nat),.slice o10 p.es.length c10,.slice o11 N c11,.slice o12 N c12,.slice none 0 0,.slice none 0 0,.map (some gm),.slice (some ⟨gt,0,none⟩) N N]) ?_ hH ?_
  ·intro w' s0;clear s0;go_simp;try with_reducible rfl
  (try simp only [pu])
  refine wpAnyH_ready (rs:=[7]) (by kernel_rfl) (by simp) ?_
  refine AllReadyH.cons rfl (fun K hK=>?_) AllReadyH.nil
  go_simp
  obtain ⟨X3,gf,hn,hx,hb,HFz,Lgf⟩:=zt4 hH
  rw [hn.1,hn.2]
  replace HTk:Hi _:=za1 HTk.o hx
  replace HMp:Hi (MapF X3 9 gm 0 (fun _=>Option.none)):=HMp.o.ok hx
  refine hK.out _ _ hb (fun hH=>?_)
  clear hK K hn hb hx
  (try simp only [pu])
  rotate_left
  go_simp
  obtain ⟨X2,gf,hn,hx,hb,HFz,Lgf⟩:=zt4 hH
  rw [hn.1,hn.2]
  replace HTk:Hi _:=za1 HTk.o hx
  refine hK.out _ _ hb (fun hH=>?_)
  clear hK K hn hb hx
  (try simp only [pu])
  refine wpAnyH_ready (rs:=[1]) (by kernel_rfl) (by simp) ?_
  refine AllReadyH.cons rfl (fun K hK=>?_) AllReadyH.nil
  go_simp
  obtain ⟨X3,gm,hn,hx,hb,HMp,Lgm⟩:=zt2 hH
  rw [hn.1,hn.2]
  replace HTk:Hi _:=za1 HTk.o hx
  replace HFz:Hi _:=Ok.row' hx HFz.o
  refine hK.out _ _ hb (fun hH=>?_)
  clear hK K hn hb hx
  (try simp only [pu])
  refine tH 6 (.agg #[.slice g0 n0 k0,.slice g1 n1 k1,.slice g2 n2 k2,.slice g3 n3 k3,.slice g4 n4 k4,.slice g5 n5 k5,.int .i64 (N:Nat),.int .i64 x7,.slice o8 p.es.length c8,.int .i64 (p.cap:Nat),.slice o10 p.es.length c10,.slice o11 N c11,.slice o12 N c12,.slice none 0 0,.slice none 0 0,.map (some gm),.slice (some ⟨gt,0,none⟩) N N]) ?_ hH ?_
  ·intro w' s0;clear s0;go_simp;try with_reducible rfl
  (try simp only [pu])
  rotate_left
  go_simp
  obtain ⟨X1,gf,hn,hx,hb,HFz,Lgf⟩:=zt4 hH
  rw [hn.1,hn.2]
  refine hK.out _ _ hb (fun hH=>?_)
  clear hK K hn hb hx
  (try simp only [pu])
  refine wpAnyH_ready (rs:=[1,5]) (by kernel_rfl) (by simp) ?_
  refine AllReadyH.cons rfl (fun K hK=>?_) (AllReadyH.cons rfl (fun K hK=>?_) AllReadyH.nil)
  go_simp
  obtain ⟨X2,gm,hn,hx,hb,HMp,Lgm⟩:=zt2 hH
  rw [hn.1,hn.2]
  replace HFz:Hi _:=Ok.row' hx HFz.o
  refine hK.out _ _ hb (fun hH=>?_)
  clear hK K hn hb hx
  (try simp only [pu])
  refine wpAnyH_ready (rs:=[5]) (by kernel_rfl) (by simp) ?_
  refine AllReadyH.cons rfl (fun K hK=>?_) AllReadyH.nil
  go_simp
  obtain ⟨X3,gt,hn,hx,hb,HTk,Lgt⟩:=zt3 hH HN6.o
  rw [hn.1,hn.2]
  replace HFz:Hi _:=Ok.row' hx HFz.o
  replace HMp:Hi (MapF X3 9 gm 0 (fun _=>Option.none)):=HMp.o.ok hx
  refine hK.out _ _ hb (fun hH=>?_)
  clear hK K hn hb hx
  (try simp only [pu])
  refine tH 6 (.agg #[.slice g0 n0 k0,.slice g1 n1 k1,.slice g2 n2 k2,.slice g3 n3 k3,.slice g4 n4 k4,.slice g5 n5 k5,.int .i64 (N:Nat),.int .i64 x7,.slice o8 p.es.length c8,.int .i64 (p.cap:Nat),.slice o10 p.es.length c10,.slice o11 N c11,.slice o12 N c12,.slice none 0 0,.slice none 0 0,.map (some gm),.slice (some ⟨gt,0,none⟩) N N]) ?_ hH ?_
  ·intro w' s0;clear s0;go_simp;try with_reducible rfl
  (try simp only [pu])
  rotate_left
  go_simp
  obtain ⟨X2,gt,hn,hx,hb,HTk,Lgt⟩:=zt3 hH HN6.o
  rw [hn.1,hn.2]
  replace HFz:Hi _:=Ok.row' hx HFz.o
  refine hK.out _ _ hb (fun hH=>?_)
  clear hK K hn hb hx
  (try simp only [pu])
  refine wpAnyH_ready (rs:=[1]) (by kernel_rfl) (by simp) ?_
  refine AllReadyH.cons rfl (fun K hK=>?_) AllReadyH.nil
  go_simp
  obtain ⟨X3,gm,hn,hx,hb,HMp,Lgm⟩:=zt2 hH
  rw [hn.1,hn.2]
  replace HFz:Hi _:=Ok.row' hx HFz.o
  replace HTk:Hi _:=za1 HTk.o hx
  refine hK.out _ _ hb (fun hH=>?_)
  clear hK K hn hb hx
  (try simp only [pu])
  refine tH 6 (.agg #[.slice g0 n0 k0,.slice g1 n1 k1,.slice g2 n2 k2,.slice g3 n3 k3,.slice g4 n4 k4,.slice g5 n5 k5,.int .i64 (N:Nat),.int .i64 x7,.slice o8 p.es.length c8,.int .i64 (p.cap:Nat),.slice o10 p.es.length c10,.slice o11 N c11,.slice o12 N c12,.slice none 0 0,.slice none 0 0,.map (some gm),.slice (some ⟨gt,0,none⟩) N N]) ?_ hH ?_
  ·intro w' s0;clear s0;go_simp;try with_reducible rfl
  (try simp only [pu])
  rotate_left
  all_goals
   refine wpAnyH_ready (rs:=[8]) (by kernel_rfl) (by simp) ?_
   refine AllReadyH.cons rfl (fun K hK=>?_) AllReadyH.nil
   have hq:W.heap.size<=gf/\W.heap.size<=gm/\W.heap.size<=gt/\gf≠gm/\gf≠gt/\gm≠gt:=by have h1:=Lgf.o;have h2:=Lgm.o;have h3:=Lgt.o;have h4:=HD0.o;omega
   refine zg9 rfl 208 _ _ rfl gf 208 _ (#[.slice g0 n0 k0,.slice g1 n1 k1,.slice g2 n2 k2,.slice g3 n3 k3,.slice g4 n4 k4,.slice g5 n5 k5,.int .i64 (N:Nat),.int .i64 x7,.slice o8 p.es.length c8,.int .i64 (p.cap:Nat),.slice o10 p.es.length c10,.slice o11 N c11,.slice o12 N c12,.slice none 0 0,.slice none 0 0,.map (some gm),.slice (some ⟨gt,0,none⟩) N N]) (by rfl) (by rfl) HFz.o infFd rfl (by simp [Value.oneCell']) rfl ?_
   refine hK.out _ _ (zd0 hH hq.1 _) (fun hH2=>?_)
   clear hK K
   refine wpAnyH_done (by kernel_rfl) ?_ _
   have Hq:Hi (W.heap.size<=gf/\W.heap.size<=gm/\W.heap.size<=gt/\gf≠gm/\gf≠gt/\gm≠gt):=hq
   clear hq
   go_wp2_with fail
   go_meet
   obtain ⟨h0,h1,h2,h3,h4,h5,h7,h6,h8,h9,h10,h11,h12⟩:=HA.o
   case rel=>exact ⟨⟨gf,gm,gt,rfl,by rw [h0,h1,h2,h3,h4,h5,h7,h6,h8,h9,h10,h11,h12];exact setRow_heap _ _ _ _ _ _ HFz.o,MapF.row HMp.o Hq.o.2.2.2.1 _,zb4 HTk.o (fun b hb=>setRow_other _ _ _ _ (by cases hb;exact Ne.symm Hq.o.2.2.2.2.1)),Hq.o.1,Hq.o.2.1,Hq.o.2.2.1,Hq.o.2.2.2⟩,hH2⟩
 obtain ⟨F,hs3,hFN,hFO,hFS⟩:=FS.start hcut.o HP.o.cap (HP.o.mrg.below HK.o) ⟨HB.o.win.1,HB.o.small.1⟩ HB.o.small.2.1 (fun w' hw'=>HTB.o w' (Below.trans HK.o (hw'.mono HK.o.le)))
 subst hs3
 obtain ⟨u,hu⟩:=qq (wc)
 rw [<-hu] at hFS ⊢
 have HFO:Hi (FOk W F p):=hFO
 have HFS:Hi (FS W F u (.slice none 0 0) (.slice none 0 0) [] [] [] []):=hFS
 have HFN:Hi (F.N=N):=hFN
 clear hu hFO hFS hFN hcut p0 p1 p2 p3 p4 p5 p6 p7 p8 p9 p10 p11 p12 lgp hmm hmk
 have HJ0:Hi (VJ p []):=⟨fun v hv=>by simp at hv,fun i v hv=>by simp at hv,⟨List.nodup_nil,fun n=>Nat.zero_le _,fun v hv=>by simp at hv,fun v hv=>by simp at hv⟩⟩
 have HC0:Hi (Calls Tryz.prog 97 #[.pointer (some ⟨F.gf,0,none⟩),.int .i64 0,.agg #[.bool false,.slice none 0 0,.slice none 0 0]] u fun e w'=>VtIs W F p (.slice none 0 0) [] [] 0 tokE u (.slice none 0 0) e w'):=zx3 HFS.o HFO.o HJ0.o (k:=0) (by rw [HFN.o];exact HB.o.win.1) (.inl rfl) tokE (.slice none 0 0) (.slice none 0 0) ⟨World.ownsRow_nil _ _ _ _,World.ownsRow_nil _ _ _ _⟩ (fun h=>by cases h) ⟨by simp [tokE],by simp [tokE],by simp [tokE],by simp [tokE]⟩ (by simp)
 go_wp2_with fail
 refine HC0.o.mono ?_
 rintro e w1 hv
 unfold VtIs at hv
 rw [zU3 p HB.o.pos] at hv
 obtain ⟨rfl,vv1,hS1,hJ1,_⟩:=hv
 have HOI:Hi (OI W F p f 0 w1):=⟨vv1,_,_,_,hS1,hJ1,FI.start p HB.o.pos,Nat.zero_le _,rfl⟩
 clear hS1 hJ1 HJ0 HC0 HFS
 go_wp2_with fail
 go_loopw [4] (fun t4 wr=>∃ fr:Nat,t4=.int .i64 (fr:Nat)/\Hi (OI W F p f fr wr)) (fun t4 _=>(((N*p.cap+1:Nat):Int)-intOf t4).toNat)
 case atStart=>exact ⟨0,rfl,HOI⟩
 clear HOI
 obtain ⟨fr,rfl,HR⟩:=hrel
 obtain ⟨vv,lv,vs,ls,hS,hJ,hFI,hff,hver⟩:=HR.o
 obtain ⟨tl,htl,hvo,hold⟩:=hS.vo
 obtain ⟨vo,vc,rfl⟩:=za0 hvo
 obtain ⟨lo,lc,rfl⟩:=za0 hS.lo
 have HS:Hi (FS W F wr (.slice vo vs.length vc) (.slice lo ls.length lc) vs vs vs ls):=hS
 have HJ:Hi (VJ p vs):=hJ
 have HFI:Hi (FI p fr vs ls):=hFI
 have HVE:Hi (fr<=f/\p.verts (f-fr) fr vs ls=p.find f):=⟨hff,hver⟩
 have HLN:Hi (vs.length<=N*p.cap/\vs.length<=10000):=by
  have h1:=hJ.vi.len HB.o.win
  have h2:=Nat.mul_le_mul HB.o.small.1 HB.o.small.2.1
  unfold Hi
  omega
 have HTL:Hi (tl.length=vs.length/\wr.ownsRow F.B 52 4 (.slice vo vs.length vc) vs.length (vxL vs tl)/\∀ (i:Nat) (v:Vx) (x:Value×Value),vs[i]?=some v->tl[i]?=some x->TokOwn wr F.B x.1 x.2 v.2):=⟨htl,hvo,hold⟩
 obtain ⟨_,_,c13,c14,_,_,cfz,lgf,_,_⟩:=hS.cells HFO.o
 clear hS hJ hFI hff hver htl hvo hold HR
 by_cases hlt:fr<vs.length
 ·have hlt':(fr:Int)<(vs.length:Int):=za5 hlt
  obtain ⟨v,hv⟩:∃ v,vs[fr]?=some v:=⟨_,List.getElem?_eq_getElem hlt⟩
  obtain ⟨x,hx⟩:∃ x,tl[fr]?=some x:=⟨_,List.getElem?_eq_getElem (by have:=HTL.o.1;omega)⟩
  have HX:Hi (vs[fr]?=some v/\tl[fr]?=some x):=⟨hv,hx⟩
  have hown:=HTL.o.2.2 fr v x hv hx
  obtain ⟨gv,cv,e1,_⟩:=HTL.o.2.1.form (by omega)
  injection e1 with e2 e3 e4
  subst e2
  clear e3 e4
  obtain ⟨u0,u1,u2,u3⟩:=zA2 hv hx
  have hcl:∀ j u,(vxL vs tl)[j]?=some u->wr.cell? ⟨gv,j,none⟩=some u:=fun j u hj=>by have h1:=HTL.o.2.1.cells (g:=gv) rfl j u hj;rw [zb7,Nat.zero_add] at h1;exact h1
  have r0:=hcl _ _ u0
  have r1:=hcl _ _ u1
  have r2:=hcl _ _ u2
  have r3:=hcl _ _ u3
  have lgv:gv<wr.heap.size:=(HTL.o.2.1.lt gv rfl).2
  obtain ⟨xo,xc,e1⟩:=za0 hown.hist
  obtain ⟨yo,yc,e2⟩:=za0 hown.loops
  have HXE:Hi (x=(Value.slice xo v.2.2.1.length xc,Value.slice yo v.2.2.2.length yc)):=by unfold Hi;rw [<-e1,<-e2]
  rw [e1] at r2
  rw [e2] at r3
  obtain ⟨kn,hkn,hknN⟩:=yz2 HJ.o.vi HB.o.win (List.mem_of_getElem? hv)
  have HKN:Hi (v.1=(kn:Int)/\kn<N):=⟨hkn,hknN⟩
  rw [hkn] at r0
  obtain ⟨tb,htb⟩:=qq (v.2.1)
  obtain ⟨xn,hxn⟩:=qq (v.2.2.1.length)
  obtain ⟨yn,hyn⟩:=qq (v.2.2.2.length)
  rw [<-htb] at r1
  rw [<-hxn] at r2
  rw [<-hyn] at r3
  have HTN:Hi (tb=v.2.1/\xn=v.2.2.1.length/\yn=v.2.2.2.length):=⟨htb,hxn,hyn⟩
  rw [<-hxn,<-hyn] at HXE
  clear htb hxn hyn
  clear hcl u0 u1 u2 u3 hkn hv hx e1 e2
  obtain ⟨ov2,hov,hou⟩:=HP.o.outs
  obtain ⟨bo,oo,co,e1,e2,e3⟩:=hov.at (by decide) hknN
  rw [HA.o.2.2.2.2.2.2.2.2.2.2.2.1] at e1
  injection e1 with e4 e5 e6
  subst e4 e6
  clear e5
  obtain ⟨ou,e4,hsl⟩:=hou kn hknN
  have HOU:Hi (SL w 1 ou (outE p.es (kn:Int)).length (ilL (outI p.es (kn:Int)))):=hsl
  obtain ⟨_,_,po,pc,rfl,_⟩:=hsl
  obtain ⟨m,hm⟩:=qq ((outE p.es (kn:Int)).length)
  have HM:Hi (m=(outE p.es (kn:Int)).length):=hm
  have rou:wr.cell? ⟨bo,oo+kn,none⟩=some (.slice po m pc):=by rw [hm];exact (HK.o.step HS.o.ok).cell (p:=⟨bo,oo+kn,none⟩) e2 (e3 kn _ e4)
  have lbo:bo<wr.heap.size:=Nat.lt_of_lt_of_le e2 (HK.o.step HS.o.ok).le
  have hknI:(kn:Int)<(N:Int):=za5 hknN
  clear e2 e3 e4 hm hov hou hown
  obtain ⟨p0,p1,p2,p3,p4,p5,p6,p7,p8,p9,p10,p11,p12,lgp⟩:=row13 (Ok.row' HS.o.ok HRP.o)
  go_wp2_with fail
  obtain ⟨gA,hgA⟩:=qq (wr.heap.size)
  obtain ⟨V,hV⟩:=qq (wr.alloc (Obj.cells #[.int .i64 (kn:Nat),.bool tb,.slice xo xn xc,.slice yo yn yc] 52))
  rw [<-hV,<-hgA]
  have HVK:Hi (Ok wr V):=by rw [hV];exact (Ok.refl wr).alloc _
  have HAB:Hi (F.B<=gA):=by have:=HS.o.le;unfold Hi;omega
  have HTOK:Hi (TokOwn wr F.B (.slice xo xn xc) (.slice yo yn yc) v.2):=by have h1:=HTL.o.2.2 fr v x HX.o.1 HX.o.2;rw [HXE.o] at h1;exact h1
  have HII:Hi (II W F p ls.length fr 0 v vs (p.edges fr v.2 (outE p.es v.1) vs ls) gA (.cells #[Value.int IntKind.i64 (kn:Nat),Value.bool tb,Value.slice xo xn xc,Value.slice yo yn yc] 52 (0,0)) (.slice xo xn xc) (.slice yo yn yc) V):=⟨_,_,vs,ls,HS.o.step HVK.o,HJ.o,⟨[],by simp⟩,rfl,by rw [hV,hgA];exact za3 _ _,fun e=>by have:=(HTL.o.2.1.lt _ e).2;omega,rfl,HTOK.o.ok HVK.o⟩
  obtain ⟨wo,hwo⟩:=qq (wr)
  rw [<-hwo] at HS HTL HVK HTOK
  clear hwo hV hgA r0 r1 r2 r3 lgv rou lbo p0 p1 p2 p3 p4 p5 p6 p7 p8 p9 p10 p11 p12 lgp c13 c14 cfz lgf
  have HMB:Hi (m<=5000):=by have h1:=zr0 p.es (kn:Int);have h2:=HB.o.small.2.2;have h3:=HM.o;unfold Hi;omega
  go_loopw [37] (fun t37 wi=>∃ j:Nat,t37=.int .i64 (j:Nat)/\j<=m/\Hi (II W F p ls.length fr j v vs (p.edges fr v.2 (outE p.es v.1) vs ls) gA (.cells #[Value.int IntKind.i64 (kn:Nat),Value.bool tb,Value.slice xo xn xc,Value.slice yo yn yc] 52 (0,0)) (.slice xo xn xc) (.slice yo yn yc) wi)) (fun t37 _=>((m:Int)-intOf t37).toNat)
  case atStart=>exact ⟨0,rfl,Nat.zero_le _,HII⟩
  clear HII
  obtain ⟨j,rfl,hjm,HR⟩:=hrel
  obtain ⟨vv2,lv2,vs2,ls2,hS2,hJ2,hws,hed,hr5,hne,hll,htk⟩:=HR.o
  obtain ⟨lo2,lc2,rfl⟩:=za0 hS2.lo
  obtain ⟨tl2,htl2,hvo2,hold2⟩:=hS2.vo
  have HS2:Hi (FS W F wr vv2 (.slice lo2 ls2.length lc2) vs2 vs2 vs2 ls2):=hS2
  have HVO2:Hi (wr.ownsRow F.B 52 4 vv2 vs2.length (vxL vs2 tl2)):=hvo2
  have HJ2:Hi (VJ p vs2):=hJ2
  have HWS:Hi ((∃ ws,vs2=vs++ws)/\p.edges fr v.2 ((outE p.es v.1).drop j) vs2 ls2=p.edges fr v.2 (outE p.es v.1) vs ls/\ls2.length=ls.length+j):=⟨hws,hed,hll⟩
  have HR5:Hi (wr.heap[gA]?=some (.cells #[Value.int IntKind.i64 (kn:Nat),Value.bool tb,Value.slice xo xn xc,Value.slice yo yn yc] 52 (0,0))/\vv2.ownBlock≠some gA):=⟨hr5,hne⟩
  have HTK:Hi (TokOwn wr F.B (.slice xo xn xc) (.slice yo yn yc) v.2):=htk
  clear hS2 hJ2 hws hed hr5 hne hll htk HR htl2 hvo2 hold2
  by_cases hjl:j<m
  ·obtain ⟨y,hy⟩:∃ y,(outE p.es v.1)[j]?=some y:=⟨_,List.getElem?_eq_getElem (by rw [HKN.o.1,<-HM.o];exact hjl)⟩
   obtain ⟨i,e⟩:=y
   obtain ⟨hie,hfrom⟩:=zz6.1 (List.mem_of_getElem? hy)
   have HY:Hi ((outE p.es v.1)[j]?=some (i,e)/\p.es[i]?=some e/\e.from'=v.1):=⟨hy,hie,hfrom⟩
   have hil:i<p.es.length:=(List.getElem?_eq_some_iff.1 hie).1
   obtain ⟨kt,hkt,hktN⟩:∃ kt:Nat,e.to'=(kt:Int)/\kt<N:=⟨e.to'.toNat,by have:=HB.o.win.2 e (List.mem_of_getElem? hie);omega,by have:=HB.o.win.2 e (List.mem_of_getElem? hie);omega⟩
   have HKT:Hi (e.to'=(kt:Int)/\kt<N):=⟨hkt,hktN⟩
   obtain ⟨bu,uu,cu,e1,e2,e3⟩:=HOU.o.at (by decide) (k:=j) (by rw [<-HM.o];exact hjl)
   injection e1 with e4 e5 e6
   subst e4 e6
   clear e5
   have ru:wr.cell? ⟨bu,uu+j,none⟩=some (.int .i64 (i:Nat)):=(HK.o.step HS2.o.ok).cell (p:=⟨bu,uu+j,none⟩) e2 (e3 j _ (zk6 (by unfold outI;rw [List.getElem?_map,<-HKN.o.1,hy];rfl)))
   have lbu:bu<wr.heap.size:=Nat.lt_of_lt_of_le e2 (HK.o.step HS2.o.ok).le
   clear e2 e3
   obtain ⟨be,oe,ce,e1,e2,e3⟩:=HP.o.edges.at (by decide) hil
   rw [HA.o.2.2.2.2.2.2.2.2.1] at e1
   injection e1 with e4 e5 e6
   subst e4 e6
   clear e5
   have HED:Hi (w.cell? ⟨be,oe+i*6+1,none⟩=some (.int .i64 (kt:Nat))/\be<w.heap.size):=⟨by rw [<-hkt];exact e3 (i*6+1) _ (yv5 hie),e2⟩
   clear e2 e3
   obtain ⟨sv,hsv,hst⟩:=HP.o.steps
   obtain ⟨bs,os,cs,e1,e2,e3⟩:=hsv.at (by decide) hil
   rw [HA.o.2.2.2.2.2.2.2.2.2.2.1] at e1
   injection e1 with e4 e5 e6
   subst e4 e6
   clear e5
   obtain ⟨fv,hfv,fid,caps,e7,hen,hcall⟩:=hst i e hie
   subst e7
   have HST:Hi (w.cell? ⟨bs,os+i,none⟩=some (.func (.func fid) #[] caps)/\bs<w.heap.size):=⟨e3 i _ hfv,e2⟩
   have HCA:Hi (∀ (Y:World) (hv lv:Value) (t:Tok),Ok w Y->TokIs Y hv lv t->TkB 100000 t->Calls Tryz.prog fid (#[.agg #[.bool t.1,hv,lv]]++caps) Y fun e' w'=>∃ hv' lv',e'=.returned (.agg #[.bool (stepT p.H p.U e i t).1,hv',lv'])/\TokOwn w' Y.heap.size hv' lv' (stepT p.H p.U e i t)/\Ok Y w'):=hcall
   clear e2 e3 hfv hcall hsv hst
   have HCL:Hi (∀ Y:World,Ok W Y->Y.heap[gA]?=some (.cells #[Value.int IntKind.i64 (kn:Nat),Value.bool tb,Value.slice xo xn xc,Value.slice yo yn yc] 52 (0,0))->Y.cell? ⟨gp,8,none⟩=some (.slice (some ⟨be,oe,none⟩) p.es.length c8)/\Y.cell? ⟨gp,10,none⟩=some (.slice (some ⟨bs,os,none⟩) p.es.length c10)/\Y.cell? ⟨be,oe+i*6+1,none⟩=some (.int .i64 (kt:Nat))/\Y.cell? ⟨bs,os+i,none⟩=some (.func (.func fid) #[] caps)/\Y.cell? ⟨gA,1,none⟩=some (.bool tb)/\Y.cell? ⟨gA,2,none⟩=some (.slice xo xn xc)/\Y.cell? ⟨gA,3,none⟩=some (.slice yo yn yc)/\gp<Y.heap.size/\gA<Y.heap.size):=fun Y hY h5=>by
    obtain ⟨_,_,_,_,_,_,_,_,q8,_,q10,_,_,q13⟩:=row13 (Ok.row' hY HRP.o)
    exact ⟨q8,q10,(HK.o.step hY).cell (p:=⟨be,oe+i*6+1,none⟩) HED.o.2 HED.o.1,(HK.o.step hY).cell (p:=⟨bs,os+i,none⟩) HST.o.2 HST.o.1,(cell_of_row _ _ 1 _ _ _ h5).trans rfl,(cell_of_row _ _ 2 _ _ _ h5).trans rfl,(cell_of_row _ _ 3 _ _ _ h5).trans rfl,q13,za2 h5⟩
   have HC14:Hi (∀ Y:World,Ok w Y->TokIs Y (.slice xo xn xc) (.slice yo yn yc) v.2->Calls Tryz.prog fid (#[.agg #[.bool tb,.slice xo xn xc,.slice yo yn yc]]++caps) Y fun e' w'=>∃ hv' lv',e'=.returned (.agg #[.bool (stepT p.H p.U e i v.2).1,hv',lv'])/\TokOwn w' Y.heap.size hv' lv' (stepT p.H p.U e i v.2)/\Ok Y w'):=fun Y hY ht=>by rw [HTN.o.1];exact HCA.o Y _ _ v.2 hY ht ((HJ.o.bnd fr v HX.o.1).up (by have:=HLN.o.2;omega))
   have HTG:Hi (TokOk (stepT p.H p.U e i v.2)/\TkB vs2.length (stepT p.H p.U e i v.2)/\vs2.length<=100000):=by
    have h1:=HB.o.frm e (List.mem_of_getElem? hie)
    have h2:=HB.o.small
    obtain ⟨ws,h3⟩:=HWS.o.1
    have h4:vs.length<=vs2.length:=by rw [h3,List.length_append];omega
    have h5:=HJ2.o.vi.len HB.o.win
    have h6:=Nat.mul_le_mul HB.o.small.1 HB.o.small.2.1
    exact ⟨TokOk.step (HJ.o.tok v (List.mem_of_getElem? HX.o.1)),(TkB.step (HJ.o.bnd fr v HX.o.1) (by unfold I64;omega) (by unfold I64;omega) HB.o.unr).up (by omega),by omega⟩
   have hjI:(j:Int)<(m:Int):=za5 hjl
   have hiI:(i:Int)<(p.es.length:Int):=za5 hil
   have kw:IntKind.i64.wrap ((j:Int)+1)=((j+1:Nat):Int):=zb3 (by have:=HMB.o;omega)
   clear hy hie hfrom hil hkt hktN
   go_upto_region 10 with (fail)
   clear ru lbu
   refine wp_region_held_drew (S:=fun w'=>Ok W w'/\w'.heap[gA]?=some (.cells #[Value.int IntKind.i64 (kn:Nat),Value.bool tb,Value.slice xo xn xc,Value.slice yo yn yc] 52 (0,0))) (by kernel_rfl) ⟨Below.drew HS2.o.ok,HR5.o.1⟩ (fun hH=>?_)
   have HSD:Hi _:=HS2.o.step (Below.drew (Ok.refl wr))
   have HTD:Hi _:=HTK.o.ok (Below.drew (Ok.refl wr))
   have HVD:Hi _:=za1 HVO2.o (Below.drew (Ok.refl wr))
   obtain ⟨D,hD⟩:=qq (wr.drew)
   have HWD:Hi (Ok wr D):=by rw [hD];exact Below.drew (Ok.refl wr)
   rw [<-hD] at hH HSD HTD HVD ⊢
   clear hD
   refine tH 0 (.pointer (some ⟨gp,0,none⟩)) ?_ hH ?_
   ·intro w' s0;clear s0;go_simp;try with_reducible rfl
   (try simp only [pu])
   refine tH 1 (.pointer (some ⟨gp,8,none⟩)) ?_ hH ?_
   ·intro w' s0;clear s0;go_simp;try with_reducible rfl
   (try simp only [pu])
   refine tH 2 (.slice (some ⟨be,oe,none⟩) p.es.length c8) ?_ hH ?_
   ·intro w' s0;obtain ⟨z1,z2,z3,z4,z5,z6,z7,z8,z9⟩:=HCL.o w' s0.1 s0.2;clear s0;go_simp;try with_reducible rfl
   (try simp only [pu])
   refine tH 3 (.int .i64 (i:Nat)) ?_ hH ?_
   ·intro w' s0;clear s0;go_simp;try with_reducible rfl
   (try simp only [pu])
   refine tH 4 (.pointer (some ⟨be,oe+i*6,none⟩)) ?_ hH ?_
   ·intro w' s0;clear s0;go_simp;try with_reducible rfl
   (try simp only [pu])
   refine tH 5 (.pointer (some ⟨be,oe+i*6+1,none⟩)) ?_ hH ?_
   ·intro w' s0;clear s0;go_simp;try with_reducible rfl
   (try simp only [pu])
   refine tH 6 (.int .i64 (kt:Nat)) ?_ hH ?_
   ·intro w' s0;obtain ⟨z1,z2,z3,z4,z5,z6,z7,z8,z9⟩:=HCL.o w' s0.1 s0.2;clear s0;go_simp;try with_reducible rfl
   (try simp only [pu])
   refine tH 7 (.pointer (some ⟨gp,10,none⟩)) ?_ hH ?_
   ·intro w' s0;clear s0;go_simp;try with_reducible rfl
   (try simp only [pu])
   refine tH 8 (.slice (some ⟨bs,os,none⟩) p.es.length c10) ?_ hH ?_
   ·intro w' s0;obtain ⟨z1,z2,z3,z4,z5,z6,z7,z8,z9⟩:=HCL.o w' s0.1 s0.2;clear s0;go_simp;try with_reducible rfl
   (try simp only [pu])
   refine tH 9 (.int .i64 (i:Nat)) ?_ hH ?_
   ·intro w' s0;clear s0;go_simp;try with_reducible rfl
   (try simp only [pu])
   refine tH 10 (.pointer (some ⟨bs,os+i,none⟩)) ?_ hH ?_
   ·intro w' s0;clear s0;go_simp;try with_reducible rfl
   (try simp only [pu])
   refine tH 11 (.func (.func fid) #[] caps) ?_ hH ?_
   ·intro w' s0;obtain ⟨z1,z2,z3,z4,z5,z6,z7,z8,z9⟩:=HCL.o w' s0.1 s0.2;clear s0;go_simp;try with_reducible rfl
   (try simp only [pu])
   refine tH 12 (.pointer (some ⟨gA,1,none⟩)) ?_ hH ?_
   ·intro w' s0;clear s0;go_simp;try with_reducible rfl
   (try simp only [pu])
   refine tH 13 (.agg #[.bool tb,.slice xo xn xc,.slice yo yn yc]) ?_ hH ?_
   ·intro w' s0;obtain ⟨z1,z2,z3,z4,z5,z6,z7,z8,z9⟩:=HCL.o w' s0.1 s0.2;clear s0;go_simp;try with_reducible rfl
   (try simp only [pu])
   refine wpAnyH_ready (rs:=[14]) (by kernel_rfl) (by simp) ?_
   refine AllReadyH.cons rfl (fun K hK=>?_) AllReadyH.nil
   go_simp
   refine (HC14.o D (HK.o.step hH.1) HTD.o.is).mono ?_
   rintro e1 D1 ⟨h1',l1',rfl,hto,hk1⟩
   have HT1:Hi (TokOwn D1 F.B h1' l1' (stepT p.H p.U e i v.2)):=hto.base HSD.o.le
   have HS1:Hi _:=HSD.o.step hk1
   have HV1:Hi _:=za1 HVD.o hk1
   have HTT1:Hi _:=HTD.o.ok hk1
   have HK1:Hi (Ok D D1):=hk1
   refine hK.out _ _ ⟨hH.1.step hk1,Ok.row' hk1 hH.2⟩ (fun hH=>?_)
   clear hK K hto hk1 HSD HVD HTD
   (try simp only [pu])
   refine wpAnyH_ready (rs:=[15]) (by kernel_rfl) (by simp) ?_
   refine AllReadyH.cons rfl (fun K hK=>?_) AllReadyH.nil
   go_simp
   refine (zx3 HS1.o HFO.o HJ2.o (k:=kt) (by rw [HFN.o];exact HKT.o.2) (.inr ⟨e,List.mem_of_getElem? HY.o.2.1,HKT.o.1⟩) (stepT p.H p.U e i v.2) h1' l1' HT1.o HTG.o.1 HTG.o.2.1 HTG.o.2.2).mono ?_
   rintro e2 D2 hv
   have HNX:Hi (p.edges fr v.2 (outE p.es v.1) vs ls=match p.vert vs2 (kt:Int) (stepT p.H p.U e i v.2) with | none=>.inl (kt:Int) | some r=>p.edges fr v.2 ((outE p.es v.1).drop (j+1)) r.1 (ls2++[(fr,r.2,i)])):=by unfold Hi;rw [<-HWS.o.2.1,zU4 HY.o.1,HKT.o.1];rfl
   unfold VtIs at hv
   cases hvt:p.vert vs2 (kt:Int) (stepT p.H p.U e i v.2) with
   | none =>
    rw [hvt] at hv
    obtain ⟨rfl,hok2⟩:=hv
    have HF2:Hi (p.find f=.inl (kt:Int)):=by
     unfold Hi
     have h1:=HNX.o
     rw [hvt] at h1
     rw [<-HVE.o.2]
     obtain ⟨g,hg⟩:∃ g,f-fr=g+1:=⟨f-fr-1,by have h2:=HLN.o.1;have h3:=HF.o;omega⟩
     rw [hg]
     unfold Pl.verts
     rw [HX.o.1]
     simp only [h1]
    have HO2:Hi (Ok W D2):=hok2
    clear hok2 hvt
    show bodyPost Tryz.prog Tryz.f59 (fun e w'=>FdIs w p f e w') (Exit.panic _) _ D2
    refine ⟨rfl,?_⟩
    unfold FdIs
    rw [HF2.o]
    exact ⟨rfl,HK.o.step HO2.o⟩
   | some r =>
    rw [hvt] at hv
    obtain ⟨rfl,vv3,hS3,hJ3,hVK3⟩:=hv
    have HNX2:Hi (p.edges fr v.2 ((outE p.es v.1).drop (j+1)) r.1 (ls2++[(fr,r.2,i)])=p.edges fr v.2 (outE p.es v.1) vs ls):=by have h1:=HNX.o;rw [hvt] at h1;exact h1.symm
    have HWS3:Hi (∃ ws,r.1=vs++ws):=by
     obtain ⟨ws,h3⟩:=HWS.o.1
     obtain ⟨l,h4,_⟩:=(zo5 HJ2.o.vi (.inr ⟨e,List.mem_of_getElem? HY.o.2.1,HKT.o.1⟩) hvt).2.1
     exact ⟨ws++l,by rw [h4,h3,List.append_assoc]⟩
    have HS3:Hi (FS W F D2 vv3 (.slice lo2 ls2.length lc2) r.1 r.1 r.1 ls2):=hS3
    have HJ3:Hi (VJ p r.1):=hJ3
    have HA3:Hi (D2.heap[gA]?=some (.cells #[Value.int IntKind.i64 (kn:Nat),Value.bool tb,Value.slice xo xn xc,Value.slice yo yn yc] 52 (0,0))/\vv3.ownBlock≠some gA):=by
     have h0:=HAB.o
     have h1:=HFO.o.fB
     have h2:=HFO.o.mB
     have h3:=HFO.o.tB
     refine ⟨hVK3.far gA _ hH.2 (by omega) (by omega) (by omega) HR5.o.2,fun e9=>?_⟩
     rcases hVK3.at_ gA e9 with h5 | h5
     ·exact HR5.o.2 h5
     have:=za2 hH.2;omega
    have HT3:Hi (TokOwn D2 F.B (.slice xo xn xc) (.slice yo yn yc) v.2):=HTT1.o.vk hVK3 HFO.o HV1.o
    obtain ⟨r1,r2⟩:=r
    simp only at HNX2 HWS3 HS3 HJ3
    dsimp only
    refine hK.out _ _ ⟨HS3.o.ok,HA3.o.1⟩ (fun hH=>?_)
    clear hK K hS3 hJ3 hVK3 hvt HNX HS1 HV1 HTT1 HT1
    (try simp only [pu])
    refine wpAnyH_ready (rs:=[16]) (by kernel_rfl) (by simp) ?_
    refine AllReadyH.cons rfl (fun K hK=>?_) AllReadyH.nil
    go_simp
    refine hK.out _ _ hH (fun hH=>?_)
    clear hK K
    (try simp only [pu])
    refine wpAnyH_done (by kernel_rfl) ?_ _
    obtain ⟨_,_,d13,d14,_,_,dfz,lgf,_,_⟩:=HS3.o.cells HFO.o
    have df:=dfz 14
    have HLB:Hi (ls2.length<=60000000):=by
     have h1:=HFI.o.len
     have h2:=HWS.o.2.2
     have h3:=Nat.mul_le_mul (Nat.le_trans (Nat.le_of_lt hlt) HLN.o.2) HB.o.small.2.2
     have h4:=HMB.o
     unfold Hi
     omega
    go_wp2_with (first | (at_builtin;refine ze4 rfl _ _ 33 58 3 24 _ rfl Tryz.underlying33 infLk (by rfl) (by decide) (by decide) F.B (.slice lo2 ls2.length lc2) ls2.length (lkL ls2) (by rfl) (World.ownsRow.alloc HS3.o.lo _) (.slice (some ⟨D2.heap.size,0,none⟩) 1 1) 1 [.int .i64 (fr:Nat),.int .i64 (r2:Nat),.int .i64 (i:Nat)] (by rfl) (SL.one D2 58 [.int .i64 (fr:Nat),.int .i64 (r2:Nat),.int .i64 (i:Nat)] rfl (by simp [Value.oneCell'])) (by have:=HLB.o;omega) (by have:=HS3.o.le;simp;omega) ?_;intro v9 w9 k1 k2;have HL9:Hi _:=k1;have HG9:Hi _:=k2;obtain ⟨vo9,vc9,rfl⟩:=za0 k1;have HF9:Hi (w9.heap[F.gf]?=some (.cells (F.row vv3 (.slice lo2 ls2.length lc2)) 208 (0,0))):=(k2.block F.gf (by simp;omega) (fun e=>zf4 HS3.o.lo HFO.o.fB e.symm)).trans (heap_past _ _ _ lgf HS3.o.row);clear k1 k2 d13 d14 dfz lgf df;have d14:w9.cell? ⟨F.gf,14,none⟩=some (.slice lo2 ls2.length lc2):=(cell_of_row _ _ 14 _ _ _ HF9.o).trans rfl;have df:w9.frozen? ⟨F.gf,14,none⟩=false:=frozen_of_row _ _ _ _ _ HF9.o;have lgf:=za2 HF9.o) | fail)
    refine ⟨⟨j+1,rfl,hjl,?_⟩,by show ((m:Int)-((j:Int)+1)).toNat<((m:Int)-(j:Int)).toNat;omega⟩
    have hfA:gA≠F.gf:=by have h1:=HAB.o;have h2:=HFO.o.fB;omega
    have hloA:=World.ownsRow.alloc HS3.o.lo (Obj.cells #[.int .i64 (fr:Nat),.int .i64 (r2:Nat),.int .i64 (i:Nat)] 58)
    have hrA:=heap_past D2 (Obj.cells #[.int .i64 (fr:Nat),.int .i64 (r2:Nat),.int .i64 (i:Nat)] 58) gA (za2 HA3.o.1) HA3.o.1
    refine ⟨vv3,_,r1,ls2++[(fr,r2,i)],(HS3.o.step ((Ok.refl D2).alloc _)).link HFO.o (l:=(fr,r2,i)) HL9.o HG9.o,HJ3.o,HWS3.o,HNX2.o,zk3 ((HG9.o.block gA (za2 hrA) (fun e=>zb6 hloA hrA (by decide) e.symm)).trans hrA) hfA _,HA3.o.2,by rw [List.length_append,List.length_singleton];have:=HWS.o.2.2;omega,?_⟩
    have htA:=HT3.o.ok ((Ok.refl D2).alloc (Obj.cells #[.int .i64 (fr:Nat),.int .i64 (r2:Nat),.int .i64 (i:Nat)] 58))
    exact ⟨zc7 (zd6 htA.hist hloA (by decide) HG9.o) (zf4 htA.hist HFO.o.fB) _,zc7 (zd6 htA.loops hloA (by decide) HG9.o) (zf4 htA.loops HFO.o.fB) _⟩
  have hjI:¬(j:Int)<(m:Int):=zb2 hjl
  have HEND:Hi (p.edges fr v.2 (outE p.es v.1) vs ls=.inr (vs2,ls2)):=by
   unfold Hi
   rw [<-HWS.o.2.1,List.drop_eq_nil_of_le (by rw [HKN.o.1,<-HM.o];omega)]
   rfl
  have HNO:Hi (OI W F p f (fr+1) wr):=by
   refine ⟨_,_,vs2,ls2,HS2.o,HJ2.o,HFI.o.next HX.o.1 HEND.o,by have h2:=HLN.o.1;have h3:=HF.o;omega,?_⟩
   rw [<-HVE.o.2]
   obtain ⟨g,hg⟩:∃ g,f-fr=g+1:=⟨f-fr-1,by have h2:=HLN.o.1;have h3:=HF.o;omega⟩
   rw [hg,show f-(fr+1)=g by omega]
   conv=>rhs;unfold Pl.verts
   rw [HX.o.1]
   simp only [HEND.o]
  have kwf:IntKind.i64.wrap ((fr:Int)+1)=((fr+1:Nat):Int):=zb3 (by have:=HLN.o.2;omega)
  go_wp2_with fail
  exact ⟨⟨fr+1,rfl,HNO⟩,by show (((N*p.cap+1:Nat):Int)-((fr:Int)+1)).toNat<(((N*p.cap+1:Nat):Int)-(fr:Int)).toNat;have:=HLN.o.1;omega⟩
 have hlt':¬(fr:Int)<(vs.length:Int):=zb2 hlt
 have HE:Hi (p.find f=.inr (vs,ls)):=by
  unfold Hi
  rw [<-HVE.o.2]
  cases hg:f-fr with
  | zero=>rfl
  | succ g =>
   unfold Pl.verts
   rw [List.getElem?_eq_none (by omega)]
 have HRR1:Hi _:=Ok.row' HS.o.ok HRR.o
 obtain ⟨d0,d1,d2,d3,d4,d5⟩:=za9 HRR1.o
 have lgr:=za2 HRR1.o
 go_wp2_with fail
 (try simp only [Exit.inBlock,Exit.then])
 refine bodyPost_ret (results_cell_row rfl _ _ gr 35 #[_,_,_] (0,0) _ rfl (zd9 HRR1.o _ _ _) Tryz.underlying35 rfl infPt) rfl ?_
 unfold FdIs
 rw [HE.o]
 refine ⟨_,_,F.B,rfl,HS.o.vo.far (fun b hb hl=>zj4 _ (by have h1:=HG.o;have h2:=HFO.o.f0;have h3:=HFO.o.fB;omega) _ _ _),zf6 HS.o.lo (by have h1:=HG.o;have h2:=HFO.o.f0;have h3:=HFO.o.fB;omega) _ _ _,by have h1:=HK.o.le;have h2:=HFO.o.f0;have h3:=HFO.o.fB;omega,(HK.o.step HS.o.ok).set3 HG.o.2.1 _ _ _⟩
end Go.Proofs.YtbneneijdgcccaaGreatDoor
