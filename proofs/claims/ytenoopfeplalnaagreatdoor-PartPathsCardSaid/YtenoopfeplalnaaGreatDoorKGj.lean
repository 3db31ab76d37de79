import Derived.Test.YtenoopfeplalnaaGreatDoorKGj0
set_option linter.all false
namespace Go.Proofs.YtenoopfeplalnaaGreatDoor
open Go.RowKit Go.Maps
theorem infPt:(Tryz.prog.info? 35).map (·.size)=some 3:=by kernel_rfl
theorem zs6 {W D:World} (h:Ok W D):∃ (E:World) (g:Nat),(D.alloc (.map #[] 0)=E/\D.heap.size=g)/\Ok D E/\Ok W E/\Hid (MapF E 9 g 0 (fun _=>Option.none))/\Hid (D.heap.size<=g/\g<E.heap.size) :=
 ⟨_,_,⟨rfl,rfl⟩,(Ok.refl D).alloc _,h.alloc _,MapF.made D 9,Nat.le_refl _,by simp⟩
theorem zs7 {W D:World} (h:Ok W D) {N:Nat} (hN:N<=1000000):∃ (E:World) (g:Nat),(D.alloc (.cells (madeCells #[.int .i64 0] N) 3)=E/\D.heap.size=g)/\Ok D E/\Ok W E/\Hid (E.ownsRow W.heap.size 3 1 (.slice (some ⟨g,0,none⟩) N N) N (ilL (List.replicate N 0)))/\Hid (D.heap.size<=g/\g<E.heap.size) :=
 ⟨_,_,⟨rfl,rfl⟩,(Ok.refl D).alloc _,h.alloc _,ym9 D W.heap.size N h.le hN,Nat.le_refl _,by simp⟩
theorem ya7 {W D:World} (h:Ok W D) (cs:Array Value) (t:TypeId):∃ (E:World) (g:Nat),(D.alloc (.cells cs t)=E/\D.heap.size=g)/\Ok D E/\Ok W E/\Hid (E.heap[g]?=some (.cells cs t (0,0)))/\Hid (D.heap.size<=g/\g<E.heap.size) :=
 ⟨_,_,⟨rfl,rfl⟩,(Ok.refl D).alloc _,h.alloc _,za4 _ _,Nat.le_refl _,by simp⟩
theorem zs8 {W D:World} (h:Ok W D):∃ (E:World) (g:Nat),(D.alloc (.cells #[.slice none 0 0,.slice none 0 0,.slice none 0 0,.slice none 0 0,.slice none 0 0,.slice none 0 0,.int .i64 0,.int .i64 0,.slice none 0 0,.int .i64 0,.slice none 0 0,.slice none 0 0,.slice none 0 0,.slice none 0 0,.slice none 0 0,.map none,.slice none 0 0] 196)=E/\D.heap.size=g)/\Ok D E/\Ok W E/\Hid (E.heap[g]?=some (.cells #[.slice none 0 0,.slice none 0 0,.slice none 0 0,.slice none 0 0,.slice none 0 0,.slice none 0 0,.int .i64 0,.int .i64 0,.slice none 0 0,.int .i64 0,.slice none 0 0,.slice none 0 0,.slice none 0 0,.slice none 0 0,.slice none 0 0,.map none,.slice none 0 0] 196 (0,0)))/\Hid (D.heap.size<=g/\g<E.heap.size):=ya7 h _ _
set_option maxRecDepth 100000 in
set_option maxHeartbeats 8000000 in
theorem ym8 (a:Nat->Value) (N:Nat) (p:Pl) (f:Nat) (w:World) (h:PI w a N p) (hp:PB N p) (hf:N*p.cap<f) (hT:Lib.TabBelow Tryz.prog w.heap.size w "internal/strconv.uint64pow10" .u64 Lib.pow10Tab) :
  Calls Tryz.prog 49 #[.agg #[a 0,a 1,a 2,a 3,a 4,a 5,a 6,a 7,a 8,a 9,a 10,a 11,a 12]] w fun e w'=>FdIs w p f e w':=by
 have HP:=hid h
 have HB:=hid hp
 have HF:=hid hf
 have HTB:=hid hT
 obtain ⟨g0,n0,k0,ha0⟩:=h.sls 0 (by omega)
 obtain ⟨g1,n1,k1,ha1⟩:=h.sls 1 (by omega)
 obtain ⟨g2,n2,k2,ha2⟩:=h.sls 2 (by omega)
 obtain ⟨g3,n3,k3,ha3⟩:=h.sls 3 (by omega)
 obtain ⟨g4,n4,k4,ha4⟩:=h.sls 4 (by omega)
 obtain ⟨g5,n5,k5,ha5⟩:=h.sls 5 (by omega)
 obtain ⟨x7,ha7⟩:=h.exi
 obtain ⟨_,_,o8,c8,e8,_⟩:=h.edges
 obtain ⟨sv,⟨_,_,o10,c10,e10,_⟩,_⟩:=h.steps
 obtain ⟨ov,⟨_,_,o11,c11,e11,_⟩,_⟩:=h.outs
 obtain ⟨_,_,o12,c12,e12,_⟩:=h.mrg
 have HA:Hid (a 0=.slice g0 n0 k0/\a 1=.slice g1 n1 k1/\a 2=.slice g2 n2 k2/\a 3=.slice g3 n3 k3/\a 4=.slice g4 n4 k4/\a 5=.slice g5 n5 k5/\a 7=.int .i64 x7/\a 6=.int .i64 (N:Nat)/\a 8=.slice o8 p.es.length c8/\a 9=.int .i64 (p.cap:Nat)/\a 10=.slice o10 p.es.length c10/\a 11=.slice o11 N c11/\a 12=.slice o12 N c12):=⟨ha0,ha1,ha2,ha3,ha4,ha5,ha7,h.nodes,e8,h.cap,e10,e11,e12⟩
 rw [ha0,ha1,ha2,ha3,ha4,ha5,ha7,h.nodes,e8,h.cap,e10,e11,e12]
 clear h hp hf hT ha0 ha1 ha2 ha3 ha4 ha5 ha7 e8 e10 e11 e12
 have HN6:Hid (N<=1000000):=by have:=HB.out.small.1;unfold Hid;omega
 have hmm:=@run_makeMap Tryz.prog
 have hmk:=run_make_row' (P:=Tryz.prog) 25 3 (.int .i64 0) 8 Tryz.underlying25 infIn rfl .i64 .i64 N (by have:=HB.out.small.1;omega) (by have:=HB.out.small.1;omega)
 go_enter Tryz.func49,Tryz.ntmps49
 go_upto_region 1 with (fail)
 obtain ⟨W,hW⟩:∃ z,z=(w.alloc (Obj.cells #[.slice g0 n0 k0,.slice g1 n1 k1,.slice g2 n2 k2,.slice g3 n3 k3,.slice g4 n4 k4,.slice g5 n5 k5,.int .i64 (N:Nat),.int .i64 x7,.slice o8 p.es.length c8,.int .i64 (p.cap:Nat),.slice o10 p.es.length c10,.slice o11 N c11,.slice o12 N c12] 90)).alloc (Obj.cells #[.slice none 0 0,.slice none 0 0,.slice none 0 0] 35):=⟨_,rfl⟩
 obtain ⟨gp,hgp⟩:∃ z,z=w.heap.size:=⟨_,rfl⟩
 obtain ⟨gr,hgr⟩:∃ z,z=w.heap.size+1:=⟨_,rfl⟩
 rw [<-hW,<-hgr,<-hgp]
 have HK:Hid (Ok w W):=by unfold Hid;rw [hW];exact ((Ok.refl w).alloc _).alloc _
 have HRP:Hid (W.heap[gp]?=some (.cells #[Value.slice g0 n0 k0,Value.slice g1 n1 k1,Value.slice g2 n2 k2,Value.slice g3 n3 k3,Value.slice g4 n4 k4,Value.slice g5 n5 k5,Value.int IntKind.i64 (N:Nat),Value.int IntKind.i64 x7,Value.slice o8 p.es.length c8,Value.int IntKind.i64 (p.cap:Nat),Value.slice o10 p.es.length c10,Value.slice o11 N c11,Value.slice o12 N c12] 90 (0,0))):=by unfold Hid;rw [hW,hgp];exact (by repeat (first | (refine heap_at _ _ _ ?hx; case hx => (first | (simp; done) | (simp; omega))) | (refine heap_past _ _ _ ?hy ?_; case hy => (first | (simp; done) | (simp; omega))) | fail))
 have HRR:Hid (W.heap[gr]?=some (.cells #[Value.slice none 0 0,Value.slice none 0 0,Value.slice none 0 0] 35 (0,0))):=by unfold Hid;rw [hW,hgr];exact (by repeat (first | (refine heap_at _ _ _ ?hx; case hx => (first | (simp; done) | (simp; omega))) | (refine heap_past _ _ _ ?hy ?_; case hy => (first | (simp; done) | (simp; omega))) | fail))
 have HG:Hid (w.heap.size<=gp/\w.heap.size<=gr/\gp<W.heap.size/\gr<W.heap.size):=by unfold Hid;rw [hW];simp;omega
 clear hW hgp hgr
 obtain ⟨p0,p1,p2,p3,p4,p5,p6,p7,p8,p9,p10,p11,p12,lgp⟩:=row13 HRP.out
 go_cut [3] from 9 to 15 (fun s3 u=>Hid (F0 W u a N s3))
 case first =>
  refine wp_region_held_drew (S:=fun w'=>Ok W w') (by kernel_rfl) (Below.drew (Ok.refl _)) (fun hH=>?_)
  obtain ⟨D,hD⟩:∃ D,D=W.drew:=⟨_,rfl⟩
  rw [<-hD] at hH ⊢
  clear hD p0 p1 p2 p3 p4 p5 p6 p7 p8 p9 p10 p11 p12 lgp
  refine wpAnyH_take (i:=0) (v:=.agg #[.slice g0 n0 k0,.slice g1 n1 k1,.slice g2 n2 k2,.slice g3 n3 k3,.slice g4 n4 k4,.slice g5 n5 k5,.int .i64 (N:Nat),.int .i64 x7,.slice o8 p.es.length c8,.int .i64 (p.cap:Nat),.slice o10 p.es.length c10,.slice o11 N c11,.slice o12 N c12]) rfl (by kernel_rfl) (by kernel_rfl) (by kernel_rfl) (fun _ _ _ h=>h) (Or.inl ⟨by rfl,?_⟩) hH ?_
  ·intro w' s0;obtain ⟨q0,q1,q2,q3,q4,q5,q6,q7,q8,q9,q10,q11,q12,q13⟩:=row13 (Ok.row' s0 HRP.out);clear s0;go_simp;try with_reducible rfl
  (try simp only [pu])
  refine wpAnyH_take (i:=2) (v:=.pointer (some ⟨gp,0,none⟩)) rfl (by kernel_rfl) (by kernel_rfl) (by kernel_rfl) (fun _ _ _ h=>h) (Or.inl ⟨by rfl,?_⟩) hH ?_
  ·intro w' s0;clear s0;go_simp;try with_reducible rfl
  (try simp only [pu])
  refine wpAnyH_take (i:=3) (v:=.pointer (some ⟨gp,6,none⟩)) rfl (by kernel_rfl) (by kernel_rfl) (by kernel_rfl) (fun _ _ _ h=>h) (Or.inl ⟨by rfl,?_⟩) hH ?_
  ·intro w' s0;clear s0;go_simp;try with_reducible rfl
  (try simp only [pu])
  refine wpAnyH_take (i:=4) (v:=.int .i64 (N:Nat)) rfl (by kernel_rfl) (by kernel_rfl) (by kernel_rfl) (fun _ _ _ h=>h) (Or.inl ⟨by rfl,?_⟩) hH ?_
  ·intro w' s0;obtain ⟨q0,q1,q2,q3,q4,q5,q6,q7,q8,q9,q10,q11,q12,q13⟩:=row13 (Ok.row' s0 HRP.out);clear s0;go_simp;try with_reducible rfl
  (try simp only [pu])
  have HD0:Hid (W.heap.size<=D.heap.size):=hH.le
  refine wpAnyH_ready (rs:=[1,5,7]) (by kernel_rfl) (by simp) ?_
  refine AllReadyH.cons rfl (fun K hK=>?_) (AllReadyH.cons rfl (fun K hK=>?_) (AllReadyH.cons rfl (fun K hK=>?_) AllReadyH.nil))
  go_simp
  obtain ⟨X1,gm,hn,hx,hb,HMp,Lgm⟩:=zs6 hH
  rw [hn.1,hn.2]
  refine hK.out _ _ hb (fun hH=>?_)
  clear hK K hn hb hx
  (try simp only [pu])
  refine wpAnyH_ready (rs:=[5,7]) (by kernel_rfl) (by simp) ?_
  refine AllReadyH.cons rfl (fun K hK=>?_) (AllReadyH.cons rfl (fun K hK=>?_) AllReadyH.nil)
  go_simp
  obtain ⟨X2,gt,hn,hx,hb,HTk,Lgt⟩:=zs7 hH HN6.out
  rw [hn.1,hn.2]
  replace HMp:Hid (MapF X2 9 gm 0 (fun _=>Option.none)):=HMp.out.ok hx
  refine hK.out _ _ hb (fun hH=>?_)
  clear hK K hn hb hx
  (try simp only [pu])
  refine wpAnyH_take (i:=6) (v:=.agg #[.slice g0 n0 k0,.slice g1 n1 k1,.slice g2 n2 k2,.slice g3 n3 k3,.slice g4 n4 k4,.slice g5 n5 k5,.int .i64 (N:Nat),.int .i64 x7,.slice o8 p.es.length c8,.int .i64 (p.cap:Nat),.slice o10 p.es.length c10,.slice o11 N c11,.slice o12 N c12,.slice none 0 0,.slice none 0 0,.map (some gm),.slice (some ⟨gt,0,none⟩) N N]) rfl (by kernel_rfl) (by kernel_rfl) (by kernel_rfl) (fun _ _ _ h=>h) (Or.inl ⟨by rfl,?_⟩) hH ?_
  ·intro w' s0;clear s0;go_simp;try with_reducible rfl
  (try simp only [pu])
  refine wpAnyH_ready (rs:=[7]) (by kernel_rfl) (by simp) ?_
  refine AllReadyH.cons rfl (fun K hK=>?_) AllReadyH.nil
  go_simp
  obtain ⟨X3,gf,hn,hx,hb,HFz,Lgf⟩:=zs8 hH
  rw [hn.1,hn.2]
  replace HMp:Hid (MapF X3 9 gm 0 (fun _=>Option.none)):=HMp.out.ok hx
  replace HTk:Hid _:=za1 HTk.out hx
  refine hK.out _ _ hb (fun hH=>?_)
  clear hK K hn hb hx
  (try simp only [pu])
  rotate_left
  go_simp
  obtain ⟨X2,gf,hn,hx,hb,HFz,Lgf⟩:=zs8 hH
  rw [hn.1,hn.2]
  replace HMp:Hid (MapF X2 9 gm 0 (fun _=>Option.none)):=HMp.out.ok hx
  refine hK.out _ _ hb (fun hH=>?_)
  clear hK K hn hb hx
  (try simp only [pu])
  refine wpAnyH_ready (rs:=[5]) (by kernel_rfl) (by simp) ?_
  refine AllReadyH.cons rfl (fun K hK=>?_) AllReadyH.nil
  go_simp
  obtain ⟨X3,gt,hn,hx,hb,HTk,Lgt⟩:=zs7 hH HN6.out
  rw [hn.1,hn.2]
  replace HMp:Hid (MapF X3 9 gm 0 (fun _=>Option.none)):=HMp.out.ok hx
  replace HFz:Hid _:=Ok.row' hx HFz.out
  refine hK.out _ _ hb (fun hH=>?_)
  clear hK K hn hb hx
  (try simp only [pu])
  refine wpAnyH_take (i:=6) (v:=.agg #[.slice g0 n0 k0,.slice g1 n1 k1,.slice g2 n2 k2,.slice g3 n3 k3,.slice g4 n4 k4,.slice g5 n5 k5,.int .i64 (N:Nat),.int .i64 x7,.slice o8 p.es.length c8,.int .i64 (p.cap:Nat),.slice o10 p.es.length c10,.slice o11 N c11,.slice o12 N c12,.slice none 0 0,.slice none 0 0,.map (some gm),.slice (some ⟨gt,0,none⟩) N N]) rfl (by kernel_rfl) (by kernel_rfl) (by kernel_rfl) (fun _ _ _ h=>h) (Or.inl ⟨by rfl,?_⟩) hH ?_
  ·intro w' s0;clear s0;go_simp;try with_reducible rfl
  (try simp only [pu])
  rotate_left
  go_simp
  obtain ⟨X1,gt,hn,hx,hb,HTk,Lgt⟩:=zs7 hH HN6.out
  rw [hn.1,hn.2]
  refine hK.out _ _ hb (fun hH=>?_)
  clear hK K hn hb hx
  (try simp only [pu])
  refine wpAnyH_ready (rs:=[1,7]) (by kernel_rfl) (by simp) ?_
  refine AllReadyH.cons rfl (fun K hK=>?_) (AllReadyH.cons rfl (fun K hK=>?_) AllReadyH.nil)
  go_simp
  obtain ⟨X2,gm,hn,hx,hb,HMp,Lgm⟩:=zs6 hH
  rw [hn.1,hn.2]
  replace HTk:Hid _:=za1 HTk.out hx
  refine hK.out _ _ hb (fun hH=>?_)
  clear hK K hn hb hx
  (try simp only [pu])
  refine wpAnyH_take (i:=6) (v:=.agg #[.slice g0 n0 k0,.slice g1 n1 k1,.slice g2 n2 k2,.slice g3 n3 k3,.slice g4 n4 k4,.slice g5 n5 k5,.int .i64 (N:Nat),.int .i64 x7,.slice o8 p.es.length c8,.int .i64 (p.cap:Nat),.slice o10 p.es.length c10,.slice o11 N c11,.slice o12 N c12,.slice none 0 0,.slice none 0 0,.map (some gm),.slice (some ⟨gt,0,none⟩) N N]) rfl (by kernel_rfl) (by kernel_rfl) (by kernel_rfl) (fun _ _ _ h=>h) (Or.inl ⟨by rfl,?_⟩) hH ?_
  ·intro w' s0;clear s0;go_simp;try with_reducible rfl
  (try simp only [pu])
  refine wpAnyH_ready (rs:=[7]) (by kernel_rfl) (by simp) ?_
  refine AllReadyH.cons rfl (fun K hK=>?_) AllReadyH.nil
  go_simp
  obtain ⟨X3,gf,hn,hx,hb,HFz,Lgf⟩:=zs8 hH
  rw [hn.1,hn.2]
  replace HTk:Hid _:=za1 HTk.out hx
  replace HMp:Hid (MapF X3 9 gm 0 (fun _=>Option.none)):=HMp.out.ok hx
  refine hK.out _ _ hb (fun hH=>?_)
  clear hK K hn hb hx
  (try simp only [pu])
  rotate_left
  go_simp
  obtain ⟨X2,gf,hn,hx,hb,HFz,Lgf⟩:=zs8 hH
  rw [hn.1,hn.2]
  replace HTk:Hid _:=za1 HTk.out hx
  refine hK.out _ _ hb (fun hH=>?_)
  clear hK K hn hb hx
  (try simp only [pu])
  refine wpAnyH_ready (rs:=[1]) (by kernel_rfl) (by simp) ?_
  refine AllReadyH.cons rfl (fun K hK=>?_) AllReadyH.nil
  go_simp
  obtain ⟨X3,gm,hn,hx,hb,HMp,Lgm⟩:=zs6 hH
  rw [hn.1,hn.2]
  replace HTk:Hid _:=za1 HTk.out hx
  replace HFz:Hid _:=Ok.row' hx HFz.out
  refine hK.out _ _ hb (fun hH=>?_)
  clear hK K hn hb hx
  (try simp only [pu])
  refine wpAnyH_take (i:=6) (v:=.agg #[.slice g0 n0 k0,.slice g1 n1 k1,.slice g2 n2 k2,.slice g3 n3 k3,.slice g4 n4 k4,.slice g5 n5 k5,.int .i64 (N:Nat),.int .i64 x7,.slice o8 p.es.length c8,.int .i64 (p.cap:Nat),.slice o10 p.es.length c10,.slice o11 N c11,.slice o12 N c12,.slice none 0 0,.slice none 0 0,.map (some gm),.slice (some ⟨gt,0,none⟩) N N]) rfl (by kernel_rfl) (by kernel_rfl) (by kernel_rfl) (fun _ _ _ h=>h) (Or.inl ⟨by rfl,?_⟩) hH ?_
  ·intro w' s0;clear s0;go_simp;try with_reducible rfl
  (try simp only [pu])
  rotate_left
  go_simp
  obtain ⟨X1,gf,hn,hx,hb,HFz,Lgf⟩:=zs8 hH
  rw [hn.1,hn.2]
  refine hK.out _ _ hb (fun hH=>?_)
  clear hK K hn hb hx
  (try simp only [pu])
  refine wpAnyH_ready (rs:=[1,5]) (by kernel_rfl) (by simp) ?_
  refine AllReadyH.cons rfl (fun K hK=>?_) (AllReadyH.cons rfl (fun K hK=>?_) AllReadyH.nil)
  go_simp
  obtain ⟨X2,gm,hn,hx,hb,HMp,Lgm⟩:=zs6 hH
  rw [hn.1,hn.2]
  replace HFz:Hid _:=Ok.row' hx HFz.out
  refine hK.out _ _ hb (fun hH=>?_)
  clear hK K hn hb hx
  (try simp only [pu])
  refine wpAnyH_ready (rs:=[5]) (by kernel_rfl) (by simp) ?_
  refine AllReadyH.cons rfl (fun K hK=>?_) AllReadyH.nil
  go_simp
  obtain ⟨X3,gt,hn,hx,hb,HTk,Lgt⟩:=zs7 hH HN6.out
  rw [hn.1,hn.2]
  replace HFz:Hid _:=Ok.row' hx HFz.out
  replace HMp:Hid (MapF X3 9 gm 0 (fun _=>Option.none)):=HMp.out.ok hx
  refine hK.out _ _ hb (fun hH=>?_)
  clear hK K hn hb hx
  (try simp only [pu])
  refine wpAnyH_take (i:=6) (v:=.agg #[.slice g0 n0 k0,.slice g1 n1 k1,.slice g2 n2 k2,.slice g3 n3 k3,.slice g4 n4 k4,.slice g5 n5 k5,.int .i64 (N:Nat),.int .i64 x7,.slice o8 p.es.length c8,.int .i64 (p.cap:Nat),.slice o10 p.es.length c10,.slice o11 N c11,.slice o12 N c12,.slice none 0 0,.slice none 0 0,.map (some gm),.slice (some ⟨gt,0,none⟩) N N]) rfl (by kernel_rfl) (by kernel_rfl) (by kernel_rfl) (fun _ _ _ h=>h) (Or.inl ⟨by rfl,?_⟩) hH ?_
  ·intro w' s0;clear s0;go_simp;try with_reducible rfl
  (try simp only [pu])
  rotate_left
  go_simp
  obtain ⟨X2,gt,hn,hx,hb,HTk,Lgt⟩:=zs7 hH HN6.out
  rw [hn.1,hn.2]
  replace HFz:Hid _:=Ok.row' hx HFz.out
  refine hK.out _ _ hb (fun hH=>?_)
  clear hK K hn hb hx
  (try simp only [pu])
  refine wpAnyH_ready (rs:=[1]) (by kernel_rfl) (by simp) ?_
  refine AllReadyH.cons rfl (fun K hK=>?_) AllReadyH.nil
  go_simp
  obtain ⟨X3,gm,hn,hx,hb,HMp,Lgm⟩:=zs6 hH
  rw [hn.1,hn.2]
  replace HFz:Hid _:=Ok.row' hx HFz.out
  replace HTk:Hid _:=za1 HTk.out hx
  refine hK.out _ _ hb (fun hH=>?_)
  clear hK K hn hb hx
  (try simp only [pu])
  refine wpAnyH_take (i:=6) (v:=.agg #[.slice g0 n0 k0,.slice g1 n1 k1,.slice g2 n2 k2,.slice g3 n3 k3,.slice g4 n4 k4,.slice g5 n5 k5,.int .i64 (N:Nat),.int .i64 x7,.slice o8 p.es.length c8,.int .i64 (p.cap:Nat),.slice o10 p.es.length c10,.slice o11 N c11,.slice o12 N c12,.slice none 0 0,.slice none 0 0,.map (some gm),.slice (some ⟨gt,0,none⟩) N N]) rfl (by kernel_rfl) (by kernel_rfl) (by kernel_rfl) (fun _ _ _ h=>h) (Or.inl ⟨by rfl,?_⟩) hH ?_
  ·intro w' s0;clear s0;go_simp;try with_reducible rfl
  (try simp only [pu])
  rotate_left
  all_goals
   refine wpAnyH_ready (rs:=[8]) (by kernel_rfl) (by simp) ?_
   refine AllReadyH.cons rfl (fun K hK=>?_) AllReadyH.nil
   have hq:W.heap.size<=gf/\W.heap.size<=gm/\W.heap.size<=gt/\gf≠gm/\gf≠gt/\gm≠gt:=by have h1:=Lgf.out;have h2:=Lgm.out;have h3:=Lgt.out;have h4:=HD0.out;omega
   refine zn3 rfl 196 _ _ rfl gf 196 _ (#[.slice g0 n0 k0,.slice g1 n1 k1,.slice g2 n2 k2,.slice g3 n3 k3,.slice g4 n4 k4,.slice g5 n5 k5,.int .i64 (N:Nat),.int .i64 x7,.slice o8 p.es.length c8,.int .i64 (p.cap:Nat),.slice o10 p.es.length c10,.slice o11 N c11,.slice o12 N c12,.slice none 0 0,.slice none 0 0,.map (some gm),.slice (some ⟨gt,0,none⟩) N N]) (by rfl) (by rfl) HFz.out infFd rfl (by simp [Value.oneCell']) rfl ?_
   refine hK.out _ _ (ze4 hH hq.1 _) (fun hH2=>?_)
   clear hK K
   refine wpAnyH_done (by kernel_rfl) ?_ _
   have Hq:Hid (W.heap.size<=gf/\W.heap.size<=gm/\W.heap.size<=gt/\gf≠gm/\gf≠gt/\gm≠gt):=hq
   clear hq
   go_wp2_with fail
   go_meet
   obtain ⟨h0,h1,h2,h3,h4,h5,h7,h6,h8,h9,h10,h11,h12⟩:=HA.out
   case rel=>exact ⟨⟨gf,gm,gt,rfl,by rw [h0,h1,h2,h3,h4,h5,h7,h6,h8,h9,h10,h11,h12];exact setRow_heap _ _ _ _ _ _ HFz.out,MapF.row HMp.out Hq.out.2.2.2.1 _,zb4 HTk.out (fun b hb=>setRow_other _ _ _ _ (by cases hb;exact Ne.symm Hq.out.2.2.2.2.1)),Hq.out.1,Hq.out.2.1,Hq.out.2.2.1,Hq.out.2.2.2⟩,hH2⟩
 case rest =>
  obtain ⟨F,hs3,hFN,hFO,hFS⟩:=FS.start hcut.out HP.out.cap (HP.out.mrg.below HK.out) ⟨HB.out.win.1,HB.out.small.1⟩ HB.out.small.2.1 (fun w' hw'=>HTB.out w' (Below.trans HK.out (hw'.mono HK.out.le)))
  subst hs3
  obtain ⟨u,hu⟩:∃ x,x=wc:=⟨_,rfl⟩
  rw [<-hu] at hFS ⊢
  have HFO:Hid (FOk W F p):=hFO
  have HFS:Hid (FS W F u (.slice none 0 0) (.slice none 0 0) [] [] [] []):=hFS
  have HFN:Hid (F.N=N):=hFN
  clear hu hFO hFS hFN hcut p0 p1 p2 p3 p4 p5 p6 p7 p8 p9 p10 p11 p12 lgp hmm hmk
  have HJ0:Hid (VJ p []):=⟨fun v hv=>by simp at hv,fun i v hv=>by simp at hv,⟨List.nodup_nil,fun n=>Nat.zero_le _,fun v hv=>by simp at hv,fun v hv=>by simp at hv⟩⟩
  have HC0:Hid (Calls Tryz.prog 86 #[.pointer (some ⟨F.gf,0,none⟩),.int .i64 0,.agg #[.bool false,.slice none 0 0,.slice none 0 0]] u fun e w'=>VtIs W F p (.slice none 0 0) [] [] 0 tokE u (.slice none 0 0) e w'):=zw7 HFS.out HFO.out HJ0.out (k:=0) (by rw [HFN.out];exact HB.out.win.1) (.inl rfl) tokE (.slice none 0 0) (.slice none 0 0) ⟨World.ownsRow_nil _ _ _ _,World.ownsRow_nil _ _ _ _⟩ (fun h=>by cases h) ⟨by simp [tokE],by simp [tokE],by simp [tokE],by simp [tokE]⟩ (by simp)
  go_wp2_with fail
  refine HC0.out.mono ?_
  rintro e w1 hv
  unfold VtIs at hv
  rw [zS2 p HB.out.pos] at hv
  obtain ⟨rfl,vv1,hS1,hJ1,_⟩:=hv
  have HOI:Hid (OI W F p f 0 w1):=⟨vv1,_,_,_,hS1,hJ1,FI.start p HB.out.pos,Nat.zero_le _,rfl⟩
  clear hS1 hJ1 HJ0 HC0 HFS
  go_wp2_with fail
  go_loopw [4] (fun t4 wr=>∃ fr:Nat,t4=.int .i64 (fr:Nat)/\Hid (OI W F p f fr wr)) (fun t4 _=>(((N*p.cap+1:Nat):Int)-intOf t4).toNat)
  case atStart=>exact ⟨0,rfl,HOI⟩
  case round =>
   clear HOI
   obtain ⟨fr,rfl,HR⟩:=hrel
   obtain ⟨vv,lv,vs,ls,hS,hJ,hFI,hff,hver⟩:=HR.out
   obtain ⟨tl,htl,hvo,hold⟩:=hS.vo
   obtain ⟨vo,vc,rfl⟩:=za0 hvo
   obtain ⟨lo,lc,rfl⟩:=za0 hS.lo
   have HS:Hid (FS W F wr (.slice vo vs.length vc) (.slice lo ls.length lc) vs vs vs ls):=hS
   have HJ:Hid (VJ p vs):=hJ
   have HFI:Hid (FI p fr vs ls):=hFI
   have HVE:Hid (fr<=f/\p.verts (f-fr) fr vs ls=p.find f):=⟨hff,hver⟩
   have HLN:Hid (vs.length<=N*p.cap/\vs.length<=10000):=by
    have h1:=hJ.vi.len HB.out.win
    have h2:=Nat.mul_le_mul HB.out.small.1 HB.out.small.2.1
    unfold Hid
    omega
   have HTL:Hid (tl.length=vs.length/\wr.ownsRow F.B 56 4 (.slice vo vs.length vc) vs.length (vxL vs tl)/\∀ (i:Nat) (v:Vx) (x:Value×Value),vs[i]?=some v->tl[i]?=some x->TokOwn wr F.B x.1 x.2 v.2):=⟨htl,hvo,hold⟩
   obtain ⟨_,_,c13,c14,_,_,cfz,lgf,_,_⟩:=hS.cells HFO.out
   clear hS hJ hFI hff hver htl hvo hold HR
   by_cases hlt:fr<vs.length
   ·have hlt':(fr:Int)<(vs.length:Int):=za6 hlt
    obtain ⟨v,hv⟩:∃ v,vs[fr]?=some v:=⟨_,List.getElem?_eq_getElem hlt⟩
    obtain ⟨x,hx⟩:∃ x,tl[fr]?=some x:=⟨_,List.getElem?_eq_getElem (by have:=HTL.out.1;omega)⟩
    have HX:Hid (vs[fr]?=some v/\tl[fr]?=some x):=⟨hv,hx⟩
    have hown:=HTL.out.2.2 fr v x hv hx
    obtain ⟨gv,cv,e1,_⟩:=HTL.out.2.1.form (by omega)
    injection e1 with e2 e3 e4
    subst e2
    clear e3 e4
    obtain ⟨u0,u1,u2,u3⟩:=zI8 hv hx
    have hcl:∀ j u,(vxL vs tl)[j]?=some u->wr.cell? ⟨gv,j,none⟩=some u:=fun j u hj=>by have h1:=HTL.out.2.1.cells (g:=gv) rfl j u hj;rw [zc0,Nat.zero_add] at h1;exact h1
    have r0:=hcl _ _ u0
    have r1:=hcl _ _ u1
    have r2:=hcl _ _ u2
    have r3:=hcl _ _ u3
    have lgv:gv<wr.heap.size:=(HTL.out.2.1.lt gv rfl).2
    obtain ⟨xo,xc,e1⟩:=za0 hown.hist
    obtain ⟨yo,yc,e2⟩:=za0 hown.loops
    have HXE:Hid (x=(Value.slice xo v.2.2.1.length xc,Value.slice yo v.2.2.2.length yc)):=by unfold Hid;rw [<-e1,<-e2]
    rw [e1] at r2
    rw [e2] at r3
    obtain ⟨kn,hkn,hknN⟩:=yx7 HJ.out.vi HB.out.win (List.mem_of_getElem? hv)
    have HKN:Hid (v.1=(kn:Int)/\kn<N):=⟨hkn,hknN⟩
    rw [hkn] at r0
    obtain ⟨tb,htb⟩:∃ z,z=v.2.1:=⟨_,rfl⟩
    obtain ⟨xn,hxn⟩:∃ z,z=v.2.2.1.length:=⟨_,rfl⟩
    obtain ⟨yn,hyn⟩:∃ z,z=v.2.2.2.length:=⟨_,rfl⟩
    rw [<-htb] at r1
    rw [<-hxn] at r2
    rw [<-hyn] at r3
    have HTN:Hid (tb=v.2.1/\xn=v.2.2.1.length/\yn=v.2.2.2.length):=⟨htb,hxn,hyn⟩
    rw [<-hxn,<-hyn] at HXE
    clear htb hxn hyn
    clear hcl u0 u1 u2 u3 hkn hv hx e1 e2
    obtain ⟨ov2,hov,hou⟩:=HP.out.outs
    obtain ⟨bo,oo,co,e1,e2,e3⟩:=hov.at (by decide) hknN
    rw [HA.out.2.2.2.2.2.2.2.2.2.2.2.1] at e1
    injection e1 with e4 e5 e6
    subst e4 e6
    clear e5
    obtain ⟨ou,e4,hsl⟩:=hou kn hknN
    have HOU:Hid (SL w 1 ou (outE p.es (kn:Int)).length (ilL (outI p.es (kn:Int)))):=hsl
    obtain ⟨_,_,po,pc,rfl,_⟩:=hsl
    obtain ⟨m,hm⟩:∃ z,z=(outE p.es (kn:Int)).length:=⟨_,rfl⟩
    have HM:Hid (m=(outE p.es (kn:Int)).length):=hm
    have rou:wr.cell? ⟨bo,oo+kn,none⟩=some (.slice po m pc):=by rw [hm];exact (HK.out.step HS.out.ok).cell (p:=⟨bo,oo+kn,none⟩) e2 (e3 kn _ e4)
    have lbo:bo<wr.heap.size:=Nat.lt_of_lt_of_le e2 (HK.out.step HS.out.ok).le
    have hknI:(kn:Int)<(N:Int):=za6 hknN
    clear e2 e3 e4 hm hov hou hown
    obtain ⟨p0,p1,p2,p3,p4,p5,p6,p7,p8,p9,p10,p11,p12,lgp⟩:=row13 (Ok.row' HS.out.ok HRP.out)
    go_wp2_with fail
    obtain ⟨gA,hgA⟩:∃ z,z=wr.heap.size:=⟨_,rfl⟩
    obtain ⟨V,hV⟩:∃ z,z=wr.alloc (Obj.cells #[.int .i64 (kn:Nat),.bool tb,.slice xo xn xc,.slice yo yn yc] 56):=⟨_,rfl⟩
    rw [<-hV,<-hgA]
    have HVK:Hid (Ok wr V):=by unfold Hid;rw [hV];exact (Ok.refl wr).alloc _
    have HAB:Hid (F.B<=gA):=by have:=HS.out.le;unfold Hid;omega
    have HTOK:Hid (TokOwn wr F.B (.slice xo xn xc) (.slice yo yn yc) v.2):=by have h1:=HTL.out.2.2 fr v x HX.out.1 HX.out.2;rw [HXE.out] at h1;exact h1
    have HII:Hid (II W F p ls.length fr 0 v vs (p.edges fr v.2 (outE p.es v.1) vs ls) gA (.cells #[Value.int IntKind.i64 (kn:Nat),Value.bool tb,Value.slice xo xn xc,Value.slice yo yn yc] 56 (0,0)) (.slice xo xn xc) (.slice yo yn yc) V):=⟨_,_,vs,ls,HS.out.step HVK.out,HJ.out,⟨[],by simp⟩,rfl,by rw [hV,hgA];exact za4 _ _,fun e=>by have:=(HTL.out.2.1.lt _ e).2;omega,rfl,HTOK.out.ok HVK.out⟩
    obtain ⟨wo,hwo⟩:∃ z,z=wr:=⟨_,rfl⟩
    rw [<-hwo] at HS HTL HVK HTOK
    clear hwo hV hgA r0 r1 r2 r3 lgv rou lbo p0 p1 p2 p3 p4 p5 p6 p7 p8 p9 p10 p11 p12 lgp c13 c14 cfz lgf
    have HMB:Hid (m<=5000):=by have h1:=zq6 p.es (kn:Int);have h2:=HB.out.small.2.2;have h3:=HM.out;unfold Hid;omega
    go_loopw [37] (fun t37 wi=>∃ j:Nat,t37=.int .i64 (j:Nat)/\j<=m/\Hid (II W F p ls.length fr j v vs (p.edges fr v.2 (outE p.es v.1) vs ls) gA (.cells #[Value.int IntKind.i64 (kn:Nat),Value.bool tb,Value.slice xo xn xc,Value.slice yo yn yc] 56 (0,0)) (.slice xo xn xc) (.slice yo yn yc) wi)) (fun t37 _=>((m:Int)-intOf t37).toNat)
    case atStart=>exact ⟨0,rfl,Nat.zero_le _,HII⟩
    case round =>
     clear HII
     obtain ⟨j,rfl,hjm,HR⟩:=hrel
     obtain ⟨vv2,lv2,vs2,ls2,hS2,hJ2,hws,hed,hr5,hne,hll,htk⟩:=HR.out
     obtain ⟨lo2,lc2,rfl⟩:=za0 hS2.lo
     obtain ⟨tl2,htl2,hvo2,hold2⟩:=hS2.vo
     have HS2:Hid (FS W F wr vv2 (.slice lo2 ls2.length lc2) vs2 vs2 vs2 ls2):=hS2
     have HVO2:Hid (wr.ownsRow F.B 56 4 vv2 vs2.length (vxL vs2 tl2)):=hvo2
     have HJ2:Hid (VJ p vs2):=hJ2
     have HWS:Hid ((∃ ws,vs2=vs++ws)/\p.edges fr v.2 ((outE p.es v.1).drop j) vs2 ls2=p.edges fr v.2 (outE p.es v.1) vs ls/\ls2.length=ls.length+j):=⟨hws,hed,hll⟩
     have HR5:Hid (wr.heap[gA]?=some (.cells #[Value.int IntKind.i64 (kn:Nat),Value.bool tb,Value.slice xo xn xc,Value.slice yo yn yc] 56 (0,0))/\vv2.ownBlock≠some gA):=⟨hr5,hne⟩
     have HTK:Hid (TokOwn wr F.B (.slice xo xn xc) (.slice yo yn yc) v.2):=htk
     clear hS2 hJ2 hws hed hr5 hne hll htk HR htl2 hvo2 hold2
     by_cases hjl:j<m
     ·obtain ⟨y,hy⟩:∃ y,(outE p.es v.1)[j]?=some y:=⟨_,List.getElem?_eq_getElem (by rw [HKN.out.1,<-HM.out];exact hjl)⟩
      obtain ⟨i,e⟩:=y
      obtain ⟨hie,hfrom⟩:=zz1.1 (List.mem_of_getElem? hy)
      have HY:Hid ((outE p.es v.1)[j]?=some (i,e)/\p.es[i]?=some e/\e.from'=v.1):=⟨hy,hie,hfrom⟩
      have hil:i<p.es.length:=(List.getElem?_eq_some_iff.1 hie).1
      obtain ⟨kt,hkt,hktN⟩:∃ kt:Nat,e.to'=(kt:Int)/\kt<N:=⟨e.to'.toNat,by have:=HB.out.win.2 e (List.mem_of_getElem? hie);omega,by have:=HB.out.win.2 e (List.mem_of_getElem? hie);omega⟩
      have HKT:Hid (e.to'=(kt:Int)/\kt<N):=⟨hkt,hktN⟩
      obtain ⟨bu,uu,cu,e1,e2,e3⟩:=HOU.out.at (by decide) (k:=j) (by rw [<-HM.out];exact hjl)
      injection e1 with e4 e5 e6
      subst e4 e6
      clear e5
      have ru:wr.cell? ⟨bu,uu+j,none⟩=some (.int .i64 (i:Nat)):=(HK.out.step HS2.out.ok).cell (p:=⟨bu,uu+j,none⟩) e2 (e3 j _ (zs5 (by unfold outI;rw [List.getElem?_map,<-HKN.out.1,hy];rfl)))
      have lbu:bu<wr.heap.size:=Nat.lt_of_lt_of_le e2 (HK.out.step HS2.out.ok).le
      clear e2 e3
      obtain ⟨be,oe,ce,e1,e2,e3⟩:=HP.out.edges.at (by decide) hil
      rw [HA.out.2.2.2.2.2.2.2.2.1] at e1
      injection e1 with e4 e5 e6
      subst e4 e6
      clear e5
      have HED:Hid (w.cell? ⟨be,oe+i*6+1,none⟩=some (.int .i64 (kt:Nat))/\be<w.heap.size):=⟨by rw [<-hkt];exact e3 (i*6+1) _ (yu1 hie),e2⟩
      clear e2 e3
      obtain ⟨sv,hsv,hst⟩:=HP.out.steps
      obtain ⟨bs,os,cs,e1,e2,e3⟩:=hsv.at (by decide) hil
      rw [HA.out.2.2.2.2.2.2.2.2.2.2.1] at e1
      injection e1 with e4 e5 e6
      subst e4 e6
      clear e5
      obtain ⟨fv,hfv,fid,caps,e7,hen,hcall⟩:=hst i e hie
      subst e7
      have HST:Hid (w.cell? ⟨bs,os+i,none⟩=some (.func (.func fid) #[] caps)/\bs<w.heap.size):=⟨e3 i _ hfv,e2⟩
      have HCA:Hid (∀ (Y:World) (hv lv:Value) (t:Tok),Ok w Y->TokIs Y hv lv t->TkB 100000 t->Calls Tryz.prog fid (#[.agg #[.bool t.1,hv,lv]]++caps) Y fun e' w'=>∃ hv' lv',e'=.returned (.agg #[.bool (stepT p.H p.U e i t).1,hv',lv'])/\TokOwn w' Y.heap.size hv' lv' (stepT p.H p.U e i t)/\Ok Y w'):=hcall
      clear e2 e3 hfv hcall hsv hst
      have HCL:Hid (∀ Y:World,Ok W Y->Y.heap[gA]?=some (.cells #[Value.int IntKind.i64 (kn:Nat),Value.bool tb,Value.slice xo xn xc,Value.slice yo yn yc] 56 (0,0))->Y.cell? ⟨gp,8,none⟩=some (.slice (some ⟨be,oe,none⟩) p.es.length c8)/\Y.cell? ⟨gp,10,none⟩=some (.slice (some ⟨bs,os,none⟩) p.es.length c10)/\Y.cell? ⟨be,oe+i*6+1,none⟩=some (.int .i64 (kt:Nat))/\Y.cell? ⟨bs,os+i,none⟩=some (.func (.func fid) #[] caps)/\Y.cell? ⟨gA,1,none⟩=some (.bool tb)/\Y.cell? ⟨gA,2,none⟩=some (.slice xo xn xc)/\Y.cell? ⟨gA,3,none⟩=some (.slice yo yn yc)/\gp<Y.heap.size/\gA<Y.heap.size):=fun Y hY h5=>by
       obtain ⟨_,_,_,_,_,_,_,_,q8,_,q10,_,_,q13⟩:=row13 (Ok.row' hY HRP.out)
       exact ⟨q8,q10,(HK.out.step hY).cell (p:=⟨be,oe+i*6+1,none⟩) HED.out.2 HED.out.1,(HK.out.step hY).cell (p:=⟨bs,os+i,none⟩) HST.out.2 HST.out.1,(cell_of_row _ _ 1 _ _ _ h5).trans rfl,(cell_of_row _ _ 2 _ _ _ h5).trans rfl,(cell_of_row _ _ 3 _ _ _ h5).trans rfl,q13,za2 h5⟩
      have HC14:Hid (∀ Y:World,Ok w Y->TokIs Y (.slice xo xn xc) (.slice yo yn yc) v.2->Calls Tryz.prog fid (#[.agg #[.bool tb,.slice xo xn xc,.slice yo yn yc]]++caps) Y fun e' w'=>∃ hv' lv',e'=.returned (.agg #[.bool (stepT p.H p.U e i v.2).1,hv',lv'])/\TokOwn w' Y.heap.size hv' lv' (stepT p.H p.U e i v.2)/\Ok Y w'):=fun Y hY ht=>by rw [HTN.out.1];exact HCA.out Y _ _ v.2 hY ht ((HJ.out.bnd fr v HX.out.1).up (by have:=HLN.out.2;omega))
      have HTG:Hid (TokOk (stepT p.H p.U e i v.2)/\TkB vs2.length (stepT p.H p.U e i v.2)/\vs2.length<=100000):=by
       have h1:=HB.out.frm e (List.mem_of_getElem? hie)
       have h2:=HB.out.small
       obtain ⟨ws,h3⟩:=HWS.out.1
       have h4:vs.length<=vs2.length:=by rw [h3,List.length_append];omega
       have h5:=HJ2.out.vi.len HB.out.win
       have h6:=Nat.mul_le_mul HB.out.small.1 HB.out.small.2.1
       exact ⟨TokOk.step (HJ.out.tok v (List.mem_of_getElem? HX.out.1)),(TkB.step (HJ.out.bnd fr v HX.out.1) (by unfold I64;omega) (by unfold I64;omega) HB.out.unr).up (by omega),by omega⟩
      have hjI:(j:Int)<(m:Int):=za6 hjl
      have hiI:(i:Int)<(p.es.length:Int):=za6 hil
      have kw:IntKind.i64.wrap ((j:Int)+1)=((j+1:Nat):Int):=zb6 (by have:=HMB.out;omega)
      clear hy hie hfrom hil hkt hktN
      go_upto_region 10 with (fail)
      clear ru lbu
      refine wp_region_held_drew (S:=fun w'=>Ok W w'/\w'.heap[gA]?=some (.cells #[Value.int IntKind.i64 (kn:Nat),Value.bool tb,Value.slice xo xn xc,Value.slice yo yn yc] 56 (0,0))) (by kernel_rfl) ⟨Below.drew HS2.out.ok,HR5.out.1⟩ (fun hH=>?_)
      have HSD:Hid _:=HS2.out.step (Below.drew (Ok.refl wr))
      have HTD:Hid _:=HTK.out.ok (Below.drew (Ok.refl wr))
      have HVD:Hid _:=za1 HVO2.out (Below.drew (Ok.refl wr))
      obtain ⟨D,hD⟩:∃ D,D=wr.drew:=⟨_,rfl⟩
      have HWD:Hid (Ok wr D):=by unfold Hid;rw [hD];exact Below.drew (Ok.refl wr)
      rw [<-hD] at hH HSD HTD HVD ⊢
      clear hD
      refine wpAnyH_take (i:=0) (v:=.pointer (some ⟨gp,0,none⟩)) rfl (by kernel_rfl) (by kernel_rfl) (by kernel_rfl) (fun _ _ _ h=>h) (Or.inl ⟨by rfl,?_⟩) hH ?_
      ·intro w' s0;clear s0;go_simp;try with_reducible rfl
      (try simp only [pu])
      refine wpAnyH_take (i:=1) (v:=.pointer (some ⟨gp,8,none⟩)) rfl (by kernel_rfl) (by kernel_rfl) (by kernel_rfl) (fun _ _ _ h=>h) (Or.inl ⟨by rfl,?_⟩) hH ?_
      ·intro w' s0;clear s0;go_simp;try with_reducible rfl
      (try simp only [pu])
      refine wpAnyH_take (i:=2) (v:=.slice (some ⟨be,oe,none⟩) p.es.length c8) rfl (by kernel_rfl) (by kernel_rfl) (by kernel_rfl) (fun _ _ _ h=>h) (Or.inl ⟨by rfl,?_⟩) hH ?_
      ·intro w' s0;obtain ⟨z1,z2,z3,z4,z5,z6,z7,z8,z9⟩:=HCL.out w' s0.1 s0.2;clear s0;go_simp;try with_reducible rfl
      (try simp only [pu])
      refine wpAnyH_take (i:=3) (v:=.int .i64 (i:Nat)) rfl (by kernel_rfl) (by kernel_rfl) (by kernel_rfl) (fun _ _ _ h=>h) (Or.inl ⟨by rfl,?_⟩) hH ?_
      ·intro w' s0;clear s0;go_simp;try with_reducible rfl
      (try simp only [pu])
      refine wpAnyH_take (i:=4) (v:=.pointer (some ⟨be,oe+i*6,none⟩)) rfl (by kernel_rfl) (by kernel_rfl) (by kernel_rfl) (fun _ _ _ h=>h) (Or.inl ⟨by rfl,?_⟩) hH ?_
      ·intro w' s0;clear s0;go_simp;try with_reducible rfl
      (try simp only [pu])
      refine wpAnyH_take (i:=5) (v:=.pointer (some ⟨be,oe+i*6+1,none⟩)) rfl (by kernel_rfl) (by kernel_rfl) (by kernel_rfl) (fun _ _ _ h=>h) (Or.inl ⟨by rfl,?_⟩) hH ?_
      ·intro w' s0;clear s0;go_simp;try with_reducible rfl
      (try simp only [pu])
      refine wpAnyH_take (i:=6) (v:=.int .i64 (kt:Nat)) rfl (by kernel_rfl) (by kernel_rfl) (by kernel_rfl) (fun _ _ _ h=>h) (Or.inl ⟨by rfl,?_⟩) hH ?_
      ·intro w' s0;obtain ⟨z1,z2,z3,z4,z5,z6,z7,z8,z9⟩:=HCL.out w' s0.1 s0.2;clear s0;go_simp;try with_reducible rfl
      (try simp only [pu])
      refine wpAnyH_take (i:=7) (v:=.pointer (some ⟨gp,10,none⟩)) rfl (by kernel_rfl) (by kernel_rfl) (by kernel_rfl) (fun _ _ _ h=>h) (Or.inl ⟨by rfl,?_⟩) hH ?_
      ·intro w' s0;clear s0;go_simp;try with_reducible rfl
      (try simp only [pu])
      refine wpAnyH_take (i:=8) (v:=.slice (some ⟨bs,os,none⟩) p.es.length c10) rfl (by kernel_rfl) (by kernel_rfl) (by kernel_rfl) (fun _ _ _ h=>h) (Or.inl ⟨by rfl,?_⟩) hH ?_
      ·intro w' s0;obtain ⟨z1,z2,z3,z4,z5,z6,z7,z8,z9⟩:=HCL.out w' s0.1 s0.2;clear s0;go_simp;try with_reducible rfl
      (try simp only [pu])
      refine wpAnyH_take (i:=9) (v:=.int .i64 (i:Nat)) rfl (by kernel_rfl) (by kernel_rfl) (by kernel_rfl) (fun _ _ _ h=>h) (Or.inl ⟨by rfl,?_⟩) hH ?_
      ·intro w' s0;clear s0;go_simp;try with_reducible rfl
      (try simp only [pu])
      refine wpAnyH_take (i:=10) (v:=.pointer (some ⟨bs,os+i,none⟩)) rfl (by kernel_rfl) (by kernel_rfl) (by kernel_rfl) (fun _ _ _ h=>h) (Or.inl ⟨by rfl,?_⟩) hH ?_
      ·intro w' s0;clear s0;go_simp;try with_reducible rfl
      (try simp only [pu])
      refine wpAnyH_take (i:=11) (v:=.func (.func fid) #[] caps) rfl (by kernel_rfl) (by kernel_rfl) (by kernel_rfl) (fun _ _ _ h=>h) (Or.inl ⟨by rfl,?_⟩) hH ?_
      ·intro w' s0;obtain ⟨z1,z2,z3,z4,z5,z6,z7,z8,z9⟩:=HCL.out w' s0.1 s0.2;clear s0;go_simp;try with_reducible rfl
      (try simp only [pu])
      refine wpAnyH_take (i:=12) (v:=.pointer (some ⟨gA,1,none⟩)) rfl (by kernel_rfl) (by kernel_rfl) (by kernel_rfl) (fun _ _ _ h=>h) (Or.inl ⟨by rfl,?_⟩) hH ?_
      ·intro w' s0;clear s0;go_simp;try with_reducible rfl
      (try simp only [pu])
      refine wpAnyH_take (i:=13) (v:=.agg #[.bool tb,.slice xo xn xc,.slice yo yn yc]) rfl (by kernel_rfl) (by kernel_rfl) (by kernel_rfl) (fun _ _ _ h=>h) (Or.inl ⟨by rfl,?_⟩) hH ?_
      ·intro w' s0;obtain ⟨z1,z2,z3,z4,z5,z6,z7,z8,z9⟩:=HCL.out w' s0.1 s0.2;clear s0;go_simp;try with_reducible rfl
      (try simp only [pu])
      refine wpAnyH_ready (rs:=[14]) (by kernel_rfl) (by simp) ?_
      refine AllReadyH.cons rfl (fun K hK=>?_) AllReadyH.nil
      go_simp
      refine (HC14.out D (HK.out.step hH.1) HTD.out.is).mono ?_
      rintro e1 D1 ⟨h1',l1',rfl,hto,hk1⟩
      have HT1:Hid (TokOwn D1 F.B h1' l1' (stepT p.H p.U e i v.2)):=hto.base HSD.out.le
      have HS1:Hid _:=HSD.out.step hk1
      have HV1:Hid _:=za1 HVD.out hk1
      have HTT1:Hid _:=HTD.out.ok hk1
      have HK1:Hid (Ok D D1):=hk1
      refine hK.out _ _ ⟨hH.1.step hk1,Ok.row' hk1 hH.2⟩ (fun hH=>?_)
      clear hK K hto hk1 HSD HVD HTD
      (try simp only [pu])
      refine wpAnyH_ready (rs:=[15]) (by kernel_rfl) (by simp) ?_
      refine AllReadyH.cons rfl (fun K hK=>?_) AllReadyH.nil
      go_simp
      refine (zw7 HS1.out HFO.out HJ2.out (k:=kt) (by rw [HFN.out];exact HKT.out.2) (.inr ⟨e,List.mem_of_getElem? HY.out.2.1,HKT.out.1⟩) (stepT p.H p.U e i v.2) h1' l1' HT1.out HTG.out.1 HTG.out.2.1 HTG.out.2.2).mono ?_
      rintro e2 D2 hv
      have HNX:Hid (p.edges fr v.2 (outE p.es v.1) vs ls=match p.vert vs2 (kt:Int) (stepT p.H p.U e i v.2) with | none=>.inl (kt:Int) | some r=>p.edges fr v.2 ((outE p.es v.1).drop (j+1)) r.1 (ls2++[(fr,r.2,i)])):=by unfold Hid;rw [<-HWS.out.2.1,zS3 HY.out.1,HKT.out.1];rfl
      unfold VtIs at hv
      cases hvt:p.vert vs2 (kt:Int) (stepT p.H p.U e i v.2) with
      | none =>
       rw [hvt] at hv
       obtain ⟨rfl,hok2⟩:=hv
       have HF2:Hid (p.find f=.inl (kt:Int)):=by
        unfold Hid
        have h1:=HNX.out
        rw [hvt] at h1
        rw [<-HVE.out.2]
        obtain ⟨g,hg⟩:∃ g,f-fr=g+1:=⟨f-fr-1,by have h2:=HLN.out.1;have h3:=HF.out;omega⟩
        rw [hg]
        unfold Pl.verts
        rw [HX.out.1]
        simp only [h1]
       have HO2:Hid (Ok W D2):=hok2
       clear hok2 hvt
       show bodyPost Tryz.prog Tryz.f49 (fun e w'=>FdIs w p f e w') (Exit.panic _) _ D2
       refine ⟨rfl,?_⟩
       unfold FdIs
       rw [HF2.out]
       exact ⟨rfl,HK.out.step HO2.out⟩
      | some r =>
       rw [hvt] at hv
       obtain ⟨rfl,vv3,hS3,hJ3,hVK3⟩:=hv
       have HNX2:Hid (p.edges fr v.2 ((outE p.es v.1).drop (j+1)) r.1 (ls2++[(fr,r.2,i)])=p.edges fr v.2 (outE p.es v.1) vs ls):=by have h1:=HNX.out;rw [hvt] at h1;exact h1.symm
       have HWS3:Hid (∃ ws,r.1=vs++ws):=by
        obtain ⟨ws,h3⟩:=HWS.out.1
        obtain ⟨l,h4,_⟩:=(zo1 HJ2.out.vi (.inr ⟨e,List.mem_of_getElem? HY.out.2.1,HKT.out.1⟩) hvt).2.1
        exact ⟨ws++l,by rw [h4,h3,List.append_assoc]⟩
       have HS3:Hid (FS W F D2 vv3 (.slice lo2 ls2.length lc2) r.1 r.1 r.1 ls2):=hS3
       have HJ3:Hid (VJ p r.1):=hJ3
       have HA3:Hid (D2.heap[gA]?=some (.cells #[Value.int IntKind.i64 (kn:Nat),Value.bool tb,Value.slice xo xn xc,Value.slice yo yn yc] 56 (0,0))/\vv3.ownBlock≠some gA):=by
        have h0:=HAB.out
        have h1:=HFO.out.fB
        have h2:=HFO.out.mB
        have h3:=HFO.out.tB
        refine ⟨hVK3.far gA _ hH.2 (by omega) (by omega) (by omega) HR5.out.2,fun e9=>?_⟩
        rcases hVK3.at_ gA e9 with h5 | h5
        ·exact HR5.out.2 h5
        ·have:=za2 hH.2;omega
       have HT3:Hid (TokOwn D2 F.B (.slice xo xn xc) (.slice yo yn yc) v.2):=HTT1.out.vk hVK3 HFO.out HV1.out
       obtain ⟨r1,r2⟩:=r
       simp only at HNX2 HWS3 HS3 HJ3
       dsimp only
       refine hK.out _ _ ⟨HS3.out.ok,HA3.out.1⟩ (fun hH=>?_)
       clear hK K hS3 hJ3 hVK3 hvt HNX HS1 HV1 HTT1 HT1
       (try simp only [pu])
       refine wpAnyH_ready (rs:=[16]) (by kernel_rfl) (by simp) ?_
       refine AllReadyH.cons rfl (fun K hK=>?_) AllReadyH.nil
       go_simp
       refine hK.out _ _ hH (fun hH=>?_)
       clear hK K
       (try simp only [pu])
       refine wpAnyH_done (by kernel_rfl) ?_ _
       obtain ⟨_,_,d13,d14,_,_,dfz,lgf,_,_⟩:=HS3.out.cells HFO.out
       have df:=dfz 14
       have HLB:Hid (ls2.length<=60000000):=by
        have h1:=HFI.out.len
        have h2:=HWS.out.2.2
        have h3:=Nat.mul_le_mul (Nat.le_trans (Nat.le_of_lt hlt) HLN.out.2) HB.out.small.2.2
        have h4:=HMB.out
        unfold Hid
        omega
       go_wp2_with (first | (at_builtin;refine zd0 rfl _ _ 33 43 3 24 _ rfl Tryz.underlying33 infLk (by rfl) (by decide) (by decide) F.B (.slice lo2 ls2.length lc2) ls2.length (lkL ls2) (by rfl) (World.ownsRow.alloc HS3.out.lo _) (.slice (some ⟨D2.heap.size,0,none⟩) 1 1) 1 [.int .i64 (fr:Nat),.int .i64 (r2:Nat),.int .i64 (i:Nat)] (by rfl) (SL.one D2 43 [.int .i64 (fr:Nat),.int .i64 (r2:Nat),.int .i64 (i:Nat)] rfl (by simp [Value.oneCell'])) (by have:=HLB.out;omega) (by have:=HS3.out.le;simp;omega) ?_;intro v9 w9 k1 k2;have HL9:Hid _:=k1;have HG9:Hid _:=k2;obtain ⟨vo9,vc9,rfl⟩:=za0 k1;have HF9:Hid (w9.heap[F.gf]?=some (.cells (F.row vv3 (.slice lo2 ls2.length lc2)) 196 (0,0))):=(k2.block F.gf (by simp;omega) (fun e=>zf4 HS3.out.lo HFO.out.fB e.symm)).trans (heap_past _ _ _ lgf HS3.out.row);clear k1 k2 d13 d14 dfz lgf df;have d14:w9.cell? ⟨F.gf,14,none⟩=some (.slice lo2 ls2.length lc2):=(cell_of_row _ _ 14 _ _ _ HF9.out).trans rfl;have df:w9.frozen? ⟨F.gf,14,none⟩=false:=frozen_of_row _ _ _ _ _ HF9.out;have lgf:=za2 HF9.out) | fail)
       refine ⟨⟨j+1,rfl,hjl,?_⟩,by show ((m:Int)-((j:Int)+1)).toNat<((m:Int)-(j:Int)).toNat;omega⟩
       have hfA:gA≠F.gf:=by have h1:=HAB.out;have h2:=HFO.out.fB;omega
       have hloA:=World.ownsRow.alloc HS3.out.lo (Obj.cells #[.int .i64 (fr:Nat),.int .i64 (r2:Nat),.int .i64 (i:Nat)] 43)
       have hrA:=heap_past D2 (Obj.cells #[.int .i64 (fr:Nat),.int .i64 (r2:Nat),.int .i64 (i:Nat)] 43) gA (za2 HA3.out.1) HA3.out.1
       refine ⟨vv3,_,r1,ls2++[(fr,r2,i)],(HS3.out.step ((Ok.refl D2).alloc _)).link HFO.out (l:=(fr,r2,i)) HL9.out HG9.out,HJ3.out,HWS3.out,HNX2.out,zk1 ((HG9.out.block gA (za2 hrA) (fun e=>zb7 hloA hrA (by decide) e.symm)).trans hrA) hfA _,HA3.out.2,by rw [List.length_append,List.length_singleton];have:=HWS.out.2.2;omega,?_⟩
       have htA:=HT3.out.ok ((Ok.refl D2).alloc (Obj.cells #[.int .i64 (fr:Nat),.int .i64 (r2:Nat),.int .i64 (i:Nat)] 43))
       exact ⟨zc8 (zd6 htA.hist hloA (by decide) HG9.out) (zf4 htA.hist HFO.out.fB) _,zc8 (zd6 htA.loops hloA (by decide) HG9.out) (zf4 htA.loops HFO.out.fB) _⟩
     ·have hjI:¬(j:Int)<(m:Int):=zb3 hjl
      have HEND:Hid (p.edges fr v.2 (outE p.es v.1) vs ls=.inr (vs2,ls2)):=by
       unfold Hid
       rw [<-HWS.out.2.1,List.drop_eq_nil_of_le (by rw [HKN.out.1,<-HM.out];omega)]
       rfl
      have HNO:Hid (OI W F p f (fr+1) wr):=by
       refine ⟨_,_,vs2,ls2,HS2.out,HJ2.out,HFI.out.next HX.out.1 HEND.out,by have h2:=HLN.out.1;have h3:=HF.out;omega,?_⟩
       rw [<-HVE.out.2]
       obtain ⟨g,hg⟩:∃ g,f-fr=g+1:=⟨f-fr-1,by have h2:=HLN.out.1;have h3:=HF.out;omega⟩
       rw [hg,show f-(fr+1)=g by omega]
       conv=>rhs;unfold Pl.verts
       rw [HX.out.1]
       simp only [HEND.out]
      have kwf:IntKind.i64.wrap ((fr:Int)+1)=((fr+1:Nat):Int):=zb6 (by have:=HLN.out.2;omega)
      go_wp2_with fail
      exact ⟨⟨fr+1,rfl,HNO⟩,by show (((N*p.cap+1:Nat):Int)-((fr:Int)+1)).toNat<(((N*p.cap+1:Nat):Int)-(fr:Int)).toNat;have:=HLN.out.1;omega⟩
   ·have hlt':¬(fr:Int)<(vs.length:Int):=zb3 hlt
    have HE:Hid (p.find f=.inr (vs,ls)):=by
     unfold Hid
     rw [<-HVE.out.2]
     cases hg:f-fr with
     | zero=>rfl
     | succ g =>
      unfold Pl.verts
      rw [List.getElem?_eq_none (by omega)]
    have HRR1:Hid _:=Ok.row' HS.out.ok HRR.out
    obtain ⟨d0,d1,d2,d3,d4,d5⟩:=zb2 HRR1.out
    have lgr:=za2 HRR1.out
    go_wp2_with fail
    (try simp only [Exit.inBlock,Exit.then])
    refine bodyPost_ret (results_cell_row rfl _ _ gr 35 #[_,_,_] (0,0) _ rfl (zd9 HRR1.out _ _ _) Tryz.underlying35 rfl infPt) rfl ?_
    unfold FdIs
    rw [HE.out]
    refine ⟨_,_,F.B,rfl,HS.out.vo.far (fun b hb hl=>zj3 _ (by have h1:=HG.out;have h2:=HFO.out.f0;have h3:=HFO.out.fB;omega) _ _ _),zf6 HS.out.lo (by have h1:=HG.out;have h2:=HFO.out.f0;have h3:=HFO.out.fB;omega) _ _ _,by have h1:=HK.out.le;have h2:=HFO.out.f0;have h3:=HFO.out.fB;omega,(HK.out.step HS.out.ok).set3 HG.out.2.1 _ _ _⟩
end Go.Proofs.YtenoopfeplalnaaGreatDoor
