import Derived.Test.YtbneneijdgcccaaGreatDoorKIf
set_option maxHeartbeats 8000000
set_option linter.all false
set_option maxRecDepth 100000
namespace Go.Proofs.YtbneneijdgcccaaGreatDoor
section
open Go.RowKit Go.Maps Go.Extern.Stop Go.Stop Go.Extern
theorem yp7 {W:World} {g:Nat} {x:Option Obj} (h:W.heap[g]?=x):W.drew.heap[g]?=x:=h
theorem yz7 {w0 W:World} (h:Ok w0 W):Ok w0 W.drew:=h.draws 1
theorem yp8 {w:World} {g:Nat} {a0 a1 a2 a3 a4 a5 a6 a7 a8:Value} {t:TypeId} (hg:w.heap[g]?=some (.cells #[a0,a1,a2,a3,a4,a5,a6,a7,a8] t (0,0))) (b0 b1 b2 b3 b4 b5 b6 b7 b8:Value):(((((((((w.setCell ⟨g,0,none⟩ b0).setCell ⟨g,1,none⟩ b1).setCell ⟨g,2,none⟩ b2).setCell ⟨g,3,none⟩ b3).setCell ⟨g,4,none⟩ b4).setCell ⟨g,5,none⟩ b5).setCell ⟨g,6,none⟩ b6).setCell ⟨g,7,none⟩ b7).setCell ⟨g,8,none⟩ b8).heap[g]?=some (.cells #[b0,b1,b2,b3,b4,b5,b6,b7,b8] t (0,0)):=by
 have h0:(w.setCell ⟨g,0,none⟩ b0).heap[g]?=some (.cells #[b0,a1,a2,a3,a4,a5,a6,a7,a8] t (0,0)):=heap_setCell_same _ g 0 _ t b0 hg
 have h1:((w.setCell ⟨g,0,none⟩ b0).setCell ⟨g,1,none⟩ b1).heap[g]?=some (.cells #[b0,b1,a2,a3,a4,a5,a6,a7,a8] t (0,0)):=heap_setCell_same _ g 1 _ t b1 h0
 have h2:(((w.setCell ⟨g,0,none⟩ b0).setCell ⟨g,1,none⟩ b1).setCell ⟨g,2,none⟩ b2).heap[g]?=some (.cells #[b0,b1,b2,a3,a4,a5,a6,a7,a8] t (0,0)):=heap_setCell_same _ g 2 _ t b2 h1
 have h3:((((w.setCell ⟨g,0,none⟩ b0).setCell ⟨g,1,none⟩ b1).setCell ⟨g,2,none⟩ b2).setCell ⟨g,3,none⟩ b3).heap[g]?=some (.cells #[b0,b1,b2,b3,a4,a5,a6,a7,a8] t (0,0)):=heap_setCell_same _ g 3 _ t b3 h2
 have h4:(((((w.setCell ⟨g,0,none⟩ b0).setCell ⟨g,1,none⟩ b1).setCell ⟨g,2,none⟩ b2).setCell ⟨g,3,none⟩ b3).setCell ⟨g,4,none⟩ b4).heap[g]?=some (.cells #[b0,b1,b2,b3,b4,a5,a6,a7,a8] t (0,0)):=heap_setCell_same _ g 4 _ t b4 h3
 have h5:((((((w.setCell ⟨g,0,none⟩ b0).setCell ⟨g,1,none⟩ b1).setCell ⟨g,2,none⟩ b2).setCell ⟨g,3,none⟩ b3).setCell ⟨g,4,none⟩ b4).setCell ⟨g,5,none⟩ b5).heap[g]?=some (.cells #[b0,b1,b2,b3,b4,b5,a6,a7,a8] t (0,0)):=heap_setCell_same _ g 5 _ t b5 h4
 have h6:(((((((w.setCell ⟨g,0,none⟩ b0).setCell ⟨g,1,none⟩ b1).setCell ⟨g,2,none⟩ b2).setCell ⟨g,3,none⟩ b3).setCell ⟨g,4,none⟩ b4).setCell ⟨g,5,none⟩ b5).setCell ⟨g,6,none⟩ b6).heap[g]?=some (.cells #[b0,b1,b2,b3,b4,b5,b6,a7,a8] t (0,0)):=heap_setCell_same _ g 6 _ t b6 h5
 have h7:((((((((w.setCell ⟨g,0,none⟩ b0).setCell ⟨g,1,none⟩ b1).setCell ⟨g,2,none⟩ b2).setCell ⟨g,3,none⟩ b3).setCell ⟨g,4,none⟩ b4).setCell ⟨g,5,none⟩ b5).setCell ⟨g,6,none⟩ b6).setCell ⟨g,7,none⟩ b7).heap[g]?=some (.cells #[b0,b1,b2,b3,b4,b5,b6,b7,a8] t (0,0)):=heap_setCell_same _ g 7 _ t b7 h6
 have h8:(((((((((w.setCell ⟨g,0,none⟩ b0).setCell ⟨g,1,none⟩ b1).setCell ⟨g,2,none⟩ b2).setCell ⟨g,3,none⟩ b3).setCell ⟨g,4,none⟩ b4).setCell ⟨g,5,none⟩ b5).setCell ⟨g,6,none⟩ b6).setCell ⟨g,7,none⟩ b7).setCell ⟨g,8,none⟩ b8).heap[g]?=some (.cells #[b0,b1,b2,b3,b4,b5,b6,b7,b8] t (0,0)):=heap_setCell_same _ g 8 _ t b8 h7
 exact h8
theorem yz8 {w0 w:World} {g:Nat} (h:Ok w0 w) (hg:w0.heap.size<=g) (b0 b1 b2 b3 b4 b5 b6 b7 b8:Value):Ok w0 (((((((((w.setCell ⟨g,0,none⟩ b0).setCell ⟨g,1,none⟩ b1).setCell ⟨g,2,none⟩ b2).setCell ⟨g,3,none⟩ b3).setCell ⟨g,4,none⟩ b4).setCell ⟨g,5,none⟩ b5).setCell ⟨g,6,none⟩ b6).setCell ⟨g,7,none⟩ b7).setCell ⟨g,8,none⟩ b8):=(((((((((h.set (p:=⟨g,0,none⟩) hg b0).set (p:=⟨g,1,none⟩) hg b1).set (p:=⟨g,2,none⟩) hg b2).set (p:=⟨g,3,none⟩) hg b3).set (p:=⟨g,4,none⟩) hg b4).set (p:=⟨g,5,none⟩) hg b5).set (p:=⟨g,6,none⟩) hg b6).set (p:=⟨g,7,none⟩) hg b7).set (p:=⟨g,8,none⟩) hg b8)
theorem zV0 (v:Nat->Value) (c:Nat->Int) (ts:List Int) (tz:Option Addr) (tc:Nat) (NN x:Nat) (es:List Ed) (r:Int) (hr:r≠0) (w:World) (hE:w.cell? ⟨0,0,none⟩=some (.iface 188 (.agg #[.pointer (some ⟨8,90,none⟩)]))) (h:∀ Y,Ok w Y->Calls Tryz.prog 24 #[.agg #[v 0,v 1,v 2,v 3,v 4,v 5]] Y fun e w'=>LwIs Y (some (NN,x,es)) e w') (hC:∀ Y,Ok w Y->Calls Tryz.prog 26 #[.agg #[.int .i64 (c 0),.int .i64 (c 1),.int .i64 (c 2),.int .i64 (c 3),.int .i64 (c 4),.int .i64 (c 5),.slice tz ts.length tc,.int .i64 (c 7),.int .i64 (c 8)]] Y fun e w'=>CkIs Y r e w'):Calls Tryz.prog 12 #[.agg #[v 0,v 1,v 2,v 3,v 4,v 5],.agg #[.int .i64 (c 0),.int .i64 (c 1),.int .i64 (c 2),.int .i64 (c 3),.int .i64 (c 4),.int .i64 (c 5),.slice tz ts.length tc,.int .i64 (c 7),.int .i64 (c 8)]] w fun e w'=>e=.returned (.tuple #[.agg #[.slice none 0 0,.slice none 0 0,.slice none 0 0,.slice none 0 0,.slice none 0 0,.slice none 0 0,.int .i64 0,.int .i64 0,.slice none 0 0],.int .i64 r])/\Ok w w':=by
 have HL:=hid h
 have HC:=hid hC
 have HR0:=hid hr
 have HE:=hid hE
 clear h hC hr hE
 obtain ⟨N,hN⟩:=qq (ts.length)
 rw [<-hN] at HC
 rw [<-hN]
 clear hN
 go_enter Tryz.func12,Tryz.ntmps12
 go_wp2_with fail
 obtain ⟨W,hW⟩:=qq (((w.alloc (Obj.cells #[v 0,v 1,v 2,v 3,v 4,v 5] 30)).alloc (Obj.cells #[.int .i64 (c 0),.int .i64 (c 1),.int .i64 (c 2),.int .i64 (c 3),.int .i64 (c 4),.int .i64 (c 5),.slice tz N tc,.int .i64 (c 7),.int .i64 (c 8)] 24)).alloc (Obj.cells #[.slice none 0 0,.slice none 0 0,.slice none 0 0,.slice none 0 0,.slice none 0 0,.slice none 0 0,.int .i64 0,.int .i64 0,.slice none 0 0] 42))
 obtain ⟨gC,hgC⟩:=qq (w.heap.size+1)
 obtain ⟨gR,hgR⟩:=qq (w.heap.size+1+1)
 rw [<-hW,<-hgR,<-hgC]
 have HK0:Hi (Ok w W):=by rw [hW];exact (((Ok.refl w).alloc _).alloc _).alloc _
 have HRR0:Hi (W.heap[gR]?=some (.cells #[.slice none 0 0,.slice none 0 0,.slice none 0 0,.slice none 0 0,.slice none 0 0,.slice none 0 0,.int .i64 0,.int .i64 0,.slice none 0 0] 42 (0,0))):=by rw [hW,hgR];exact jj
 have HRC0:Hi (W.heap[gC]?=some (.cells #[Value.int IntKind.i64 (c 0),Value.int IntKind.i64 (c 1),Value.int IntKind.i64 (c 2),Value.int IntKind.i64 (c 3),Value.int IntKind.i64 (c 4),Value.int IntKind.i64 (c 5),Value.slice tz N tc,Value.int IntKind.i64 (c 7),Value.int IntKind.i64 (c 8)] 24 (0,0))):=by rw [hW,hgC];exact jj
 have HG:Hi (w.heap.size<=gR/\w.heap.size<=gC/\gC≠gR):=by unfold Hi;omega
 clear hW hgR hgC
 refine (HL.o W HK0.o).mono ?_
 rintro e w1 hv
 unfold LwIs at hv
 obtain ⟨⟨u,eo,ec,rfl,hu,hes⟩,hk1⟩:=hv
 have HU:Hi (∀ i,i<6->∃ ao n c,u i=.slice ao n c):=hu
 have HES:Hi (w1.ownsRow 0 56 6 (.slice eo es.length ec) es.length (edL es)):=hes
 have HK1:Hi (Ok w w1):=HK0.o.step hk1
 have HRR1:Hi _:=Ok.row' hk1 HRR0.o
 have HRC1:Hi _:=Ok.row' hk1 HRC0.o
 have HON:Hi ((#[u 0,u 1,u 2,u 3,u 4,u 5,.int .i64 (NN:Nat),.int .i64 (x:Nat),.slice eo es.length ec]:Array Value).all (·.oneCell')=true):=by
  obtain ⟨g0,n0,k0,g1,n1,k1,g2,n2,k2,g3,n3,k3,g4,n4,k4,g5,n5,k5,e0,e1,e2,e3,e4,e5⟩:=slices6 hu
  unfold Hi
  rw [e0,e1,e2,e3,e4,e5]
  simp [Value.oneCell']
 clear hk1 HL hu hes
 go_wp2_with (first | (refine za8 rfl 42 _ _ rfl w1.heap.size 42 #[.slice none 0 0,.slice none 0 0,.slice none 0 0,.slice none 0 0,.slice none 0 0,.slice none 0 0,.int .i64 0,.int .i64 0,.slice none 0 0] #[u 0,u 1,u 2,u 3,u 4,u 5,.int .i64 (NN:Nat),.int .i64 (x:Nat),.slice eo es.length ec] (by rfl) (by rfl) (za3 _ _) infGr rfl HON.o ?_;obtain ⟨X,gL,hX,HKX,HKL⟩:=zl8 w1 #[u 0,u 1,u 2,u 3,u 4,u 5,.int .i64 (NN:Nat),.int .i64 (x:Nat),.slice eo es.length ec];rw [hX.1,hX.2];clear hX;obtain ⟨p0,p1,p2,p3,p4,p5,p6,p7,p8,lgp⟩:=row9 (Ok.row' HKX.o HRC1.o)) | fail)
 have HTP:Hi (X.heap.size≠gR):=by have h1:=za2 (Ok.row' HKX.o HRR1.o);unfold Hi;omega
 refine (HC.o _ ((HK1.o.step HKX.o).alloc _)).mono ?_
 rintro e w2 hv
 obtain ⟨hv,hk2⟩:=hv
 obtain ⟨b,hb,hbl,hbr,hbc⟩:∃ b:Nat,e=.returned (.iface 87 (.pointer (some ⟨b,0,none⟩)))/\(X.alloc (Obj.cells #[Value.pointer none] 87)).heap.size<=b/\b<w2.heap.size/\w2.cell? ⟨b,0,none⟩=some (.int .i64 r):=hv.elim (fun h=>absurd h.1 HR0.o) (fun h=>h.2)
 subst hb
 clear hv
 have hsz:=za2 (za3 X (Obj.cells #[Value.pointer none] 87))
 have HB:Hi (w2.cell? ⟨b,0,none⟩=some (.int .i64 r)/\b<w2.heap.size/\X.heap.size<b):=⟨hbc,hbr,by omega⟩
 obtain ⟨tP,htP⟩:=qq (X.heap.size)
 have HTR:Hi (w2.heap[tP]?=some (.cells #[Value.pointer none] 87 (0,0))):=by rw [htP];exact Ok.row' hk2 (za3 _ _)
 have HTE:Hi (tP=X.heap.size):=htP
 have HK2:Hi (Ok X w2):=((Ok.refl X).alloc _).step hk2
 rw [<-htP]
 clear hk2 p0 p1 p2 p3 p4 p5 p6 p7 p8 lgp htP hbc hbl hbr hsz
 go_wp2_with fail
 refine (yD6 ⟨b,0,none⟩ tP (.pointer none) w2 (((HK1.o.step HKX.o).step HK2.o).cell (p:=⟨0,0,none⟩) (zi9 HE.o) HE.o) ((cell_of_row _ _ 0 _ _ _ HTR.o).trans rfl) (frozen_of_row _ _ _ _ _ HTR.o)).mono ?_
 rintro e w3 ⟨rfl,w4,hk4,hw3⟩
 have HRZ:Hi (w3.heap[gR]?=some (.cells #[.slice none 0 0,.slice none 0 0,.slice none 0 0,.slice none 0 0,.slice none 0 0,.slice none 0 0,.int .i64 0,.int .i64 0,.slice none 0 0] 42 (0,0))):=by rw [hw3];exact zk3 (Ok.row' ((HKX.o.step HK2.o).step hk4) HRR1.o) (by rw [HTE.o];exact HTP.o.symm) _
 have hb3:w3.cell? ⟨b,0,none⟩=some (.int .i64 r):=by rw [hw3,World.cell?_setCell_far _ _ _ _ (by have:=HB.o.2.2;have:=HTE.o;show tP≠b;omega)];exact hk4.cell (p:=⟨b,0,none⟩) HB.o.2.1 HB.o.1
 have ht3:w3.cell? ⟨tP,0,none⟩=some (.pointer (some ⟨b,0,none⟩)):=by rw [hw3];exact (cell_of_row _ _ 0 _ _ _ (heap_setCell_same w4 tP 0 _ _ _ (Ok.row' hk4 HTR.o))).trans rfl
 have HK3:Hi (Ok w w3):=by rw [hw3];exact (((HK1.o.step HKX.o).step HK2.o).step hk4).set (by have h1:=HTE.o;have h2:=(HK1.o.step HKX.o).le;show w.heap.size<=tP;omega) _
 have lb3:b<w3.heap.size:=zi9 hb3
 have lt3:tP<w3.heap.size:=zi9 ht3
 clear hw3 hk4
 obtain ⟨p0,p1,p2,p3,p4,p5,p6,p7,p8,lgp⟩:=row9 HRZ.o
 have fz:∀ i,w3.frozen? ⟨gR,i,none⟩=false:=fun i=>frozen_of_row _ _ _ _ _ HRZ.o
 have hbg:¬b=gR:=by have:=HB.o.2.2;have:=za2 (Ok.row' HKX.o HRR1.o);omega
 have htg:¬tP=gR:=by have:=HTP.o;have:=HTE.o;omega
 have hgb:¬gR=b:=fun e=>hbg e.symm
 have hgt:¬gR=tP:=fun e=>htg e.symm
 have HRY:Hi ((((((((((w3.setCell ⟨gR,0,none⟩ (.slice none 0 0)).setCell ⟨gR,1,none⟩ (.slice none 0 0)).setCell ⟨gR,2,none⟩ (.slice none 0 0)).setCell ⟨gR,3,none⟩ (.slice none 0 0)).setCell ⟨gR,4,none⟩ (.slice none 0 0)).setCell ⟨gR,5,none⟩ (.slice none 0 0)).setCell ⟨gR,6,none⟩ (.int .i64 0)).setCell ⟨gR,7,none⟩ (.int .i64 0)).setCell ⟨gR,8,none⟩ (.slice none 0 0)).drew.heap[gR]?=some (.cells #[.slice none 0 0,.slice none 0 0,.slice none 0 0,.slice none 0 0,.slice none 0 0,.slice none 0 0,.int .i64 0,.int .i64 0,.slice none 0 0] 42 (0,0))):=yp7 (yp8 HRZ.o _ _ _ _ _ _ _ _ _)
 have HKY:Hi (Ok w (((((((((w3.setCell ⟨gR,0,none⟩ (.slice none 0 0)).setCell ⟨gR,1,none⟩ (.slice none 0 0)).setCell ⟨gR,2,none⟩ (.slice none 0 0)).setCell ⟨gR,3,none⟩ (.slice none 0 0)).setCell ⟨gR,4,none⟩ (.slice none 0 0)).setCell ⟨gR,5,none⟩ (.slice none 0 0)).setCell ⟨gR,6,none⟩ (.int .i64 0)).setCell ⟨gR,7,none⟩ (.int .i64 0)).setCell ⟨gR,8,none⟩ (.slice none 0 0)).drew):=yz7 (yz8 HK3.o HG.o.1 _ _ _ _ _ _ _ _ _)
 go_upto_region 6 with (fail)
 go_region_held3 (fun w'=>w'.cell? ⟨tP,0,none⟩=some (.pointer (some ⟨b,0,none⟩))/\w'.cell? ⟨b,0,none⟩=some (.int .i64 r)) (simp (maxDischargeDepth:=20) [*,World.cell?_setCell_far]) (fail)
 clear p0 p1 p2 p3 p4 p5 p6 p7 p8 fz hb3 ht3
 obtain ⟨Y,hY⟩:=qq ((((((((((w3.setCell ⟨gR,0,none⟩ (.slice none 0 0)).setCell ⟨gR,1,none⟩ (.slice none 0 0)).setCell ⟨gR,2,none⟩ (.slice none 0 0)).setCell ⟨gR,3,none⟩ (.slice none 0 0)).setCell ⟨gR,4,none⟩ (.slice none 0 0)).setCell ⟨gR,5,none⟩ (.slice none 0 0)).setCell ⟨gR,6,none⟩ (.int .i64 0)).setCell ⟨gR,7,none⟩ (.int .i64 0)).setCell ⟨gR,8,none⟩ (.slice none 0 0)).drew)
 rw [<-hY] at HRY HKY ⊢
 clear hY
 go_wp2_with fail
 refine bodyPost_ret (zc0 rfl _ _ gR 42 #[.slice none 0 0,.slice none 0 0,.slice none 0 0,.slice none 0 0,.slice none 0 0,.slice none 0 0,.int .i64 0,.int .i64 0,.slice none 0 0] (0,0) _ rfl HRY.o Tryz.underlying42 rfl infGr) rfl ?_
 exact ⟨rfl,HKY.o⟩
end
section
open Go.RowKit Go.Maps
theorem zx6 (v:Nat->Value) (c:Nat->Int) (tz:Option Addr) (tn tc:Nat) (r:Int) (hr:r≠0) (w:World) (h:∀ Y,Ok w Y->Calls Tryz.prog 12 #[.agg #[v 0,v 1,v 2,v 3,v 4,v 5],.agg #[.int .i64 (c 0),.int .i64 (c 1),.int .i64 (c 2),.int .i64 (c 3),.int .i64 (c 4),.int .i64 (c 5),.slice tz tn tc,.int .i64 (c 7),.int .i64 (c 8)]] Y fun e w'=>e=.returned (.tuple #[.agg #[.slice none 0 0,.slice none 0 0,.slice none 0 0,.slice none 0 0,.slice none 0 0,.slice none 0 0,.int .i64 0,.int .i64 0,.slice none 0 0],.int .i64 r])/\Ok Y w'):Calls Tryz.prog 5 #[.agg #[v 0,v 1,v 2,v 3,v 4,v 5],.agg #[.int .i64 (c 0),.int .i64 (c 1),.int .i64 (c 2),.int .i64 (c 3),.int .i64 (c 4),.int .i64 (c 5),.slice tz tn tc,.int .i64 (c 7),.int .i64 (c 8)]] w fun e w'=>e=.returned (.tuple #[.agg #[.slice none 0 0,.slice none 0 0,.slice none 0 0],.int .i64 r])/\Ok w w':=by
 have HL:=hid h
 have hrb:(r != 0)=true:=bne_iff_ne.2 hr
 clear h hr
 go_enter Tryz.func5,Tryz.ntmps5
 go_wp2_with fail
 obtain ⟨W,hW⟩:=qq (((w.alloc (Obj.cells #[v 0,v 1,v 2,v 3,v 4,v 5] 30)).alloc (Obj.cells #[.int .i64 (c 0),.int .i64 (c 1),.int .i64 (c 2),.int .i64 (c 3),.int .i64 (c 4),.int .i64 (c 5),.slice tz tn tc,.int .i64 (c 7),.int .i64 (c 8)] 24)).alloc (Obj.cells #[.slice none 0 0,.slice none 0 0,.slice none 0 0] 35))
 obtain ⟨gC,hgC⟩:=qq (w.heap.size+1)
 obtain ⟨gR,hgR⟩:=qq (w.heap.size+1+1)
 rw [<-hW,<-hgR,<-hgC]
 have HK0:Hi (Ok w W):=by rw [hW];exact (((Ok.refl w).alloc _).alloc _).alloc _
 have HRR0:Hi (W.heap[gR]?=some (.cells #[.slice none 0 0,.slice none 0 0,.slice none 0 0] 35 (0,0))):=by rw [hW,hgR];exact jj
 have HRC0:Hi (W.heap[gC]?=some (.cells #[.int .i64 (c 0),.int .i64 (c 1),.int .i64 (c 2),.int .i64 (c 3),.int .i64 (c 4),.int .i64 (c 5),.slice tz tn tc,.int .i64 (c 7),.int .i64 (c 8)] 24 (0,0))):=by rw [hW,hgC];exact jj
 have HG:Hi (w.heap.size<=gR/\w.heap.size<=gC/\gC≠gR):=by unfold Hi;omega
 clear hW hgR hgC
 refine (HL.o W HK0.o).mono ?_
 rintro e w1 ⟨rfl,hk1⟩
 have HK1:Hi (Ok w w1):=HK0.o.step hk1
 have HRR1:Hi _:=Ok.row' hk1 HRR0.o
 clear hk1 HL HRC0
 go_wp2_with (first | (refine za8 rfl 42 _ _ rfl w1.heap.size 42 #[.slice none 0 0,.slice none 0 0,.slice none 0 0,.slice none 0 0,.slice none 0 0,.slice none 0 0,.int .i64 0,.int .i64 0,.slice none 0 0] #[.slice none 0 0,.slice none 0 0,.slice none 0 0,.slice none 0 0,.slice none 0 0,.slice none 0 0,.int .i64 0,.int .i64 0,.slice none 0 0] (by rfl) (by rfl) (za3 _ _) infGr rfl ye2 ?_;obtain ⟨X,gL,hX,HKX,HKL⟩:=zl8 w1 #[.slice none 0 0,.slice none 0 0,.slice none 0 0,.slice none 0 0,.slice none 0 0,.slice none 0 0,.int .i64 0,.int .i64 0,.slice none 0 0];rw [hX.1,hX.2];clear hX) | (refine za8 rfl 35 _ _ rfl gR 35 #[.slice none 0 0,.slice none 0 0,.slice none 0 0] #[.slice none 0 0,.slice none 0 0,.slice none 0 0] (by rfl) (by rfl) (Ok.row' HKX.o HRR1.o) infPt rfl (by simp [Value.oneCell']) ?_) | fail)
 refine bodyPost_ret (zc0 rfl _ _ gR 35 #[.slice none 0 0,.slice none 0 0,.slice none 0 0] (0,0) _ rfl (setRow_heap _ _ _ _ _ _ (Ok.row' HKX.o HRR1.o)) Tryz.underlying35 rfl infPt) rfl ?_
 exact ⟨rfl,zd0 (HK1.o.step HKX.o) HG.o.1 _⟩
def PsIs (w:World) (N:Nat) (R:List Int×List Vx×List Lk) (e:Ending) (w':World):Prop:=∃ (vv lv mv:Value),e=.returned (.tuple #[.agg #[vv,lv,mv],.int .i64 0])/\VsOwn w' w.heap.size vv R.2.1/\w'.ownsRow w.heap.size 58 3 lv R.2.2.length (lkL R.2.2)/\w'.ownsRow w.heap.size 3 1 mv (mgL N R.1).length (ilL (mgL N R.1))/\Ok w w'
def gA (u:Nat->Value) (N x:Nat) (ev:Value):Nat->Value
 | 6=>.int .i64 (N:Nat)
 | 7=>.int .i64 (x:Nat)
 | 8=>ev
 | i=>u i
theorem ye3 (v:Nat->Value) (c:Nat->Int) (tz:Option Addr) (tn tc:Nat) (NN x:Nat) (es:List Ed) (R:List Int×List Vx×List Lk) (w:World) (h:∀ Y,Ok w Y->Calls Tryz.prog 12 #[.agg #[v 0,v 1,v 2,v 3,v 4,v 5],.agg #[.int .i64 (c 0),.int .i64 (c 1),.int .i64 (c 2),.int .i64 (c 3),.int .i64 (c 4),.int .i64 (c 5),.slice tz tn tc,.int .i64 (c 7),.int .i64 (c 8)]] Y fun e w'=>LwIs Y (some (NN,x,es)) e w') (hS:∀ Y (a:Nat->Value),Ok w Y->a 6=.int .i64 (NN:Nat)->(∀ i,i<6->∃ ao n c,a i=.slice ao n c)->(∃ x,a 7=.int .i64 x)->Y.ownsRow 0 56 6 (a 8) es.length (edL es)->Calls Tryz.prog 13 #[.agg #[a 0,a 1,a 2,a 3,a 4,a 5,a 6,a 7,a 8],.agg #[.int .i64 (c 0),.int .i64 (c 1),.int .i64 (c 2),.int .i64 (c 3),.int .i64 (c 4),.int .i64 (c 5),.slice tz tn tc,.int .i64 (c 7),.int .i64 (c 8)]] Y fun e w'=>SpIs Y NN R e w'):Calls Tryz.prog 5 #[.agg #[v 0,v 1,v 2,v 3,v 4,v 5],.agg #[.int .i64 (c 0),.int .i64 (c 1),.int .i64 (c 2),.int .i64 (c 3),.int .i64 (c 4),.int .i64 (c 5),.slice tz tn tc,.int .i64 (c 7),.int .i64 (c 8)]] w fun e w'=>PsIs w NN R e w':=by
 have HL:=hid h
 have HS:=hid hS
 clear h hS
 go_enter Tryz.func5,Tryz.ntmps5
 go_wp2_with fail
 obtain ⟨W,hW⟩:=qq (((w.alloc (Obj.cells #[v 0,v 1,v 2,v 3,v 4,v 5] 30)).alloc (Obj.cells #[.int .i64 (c 0),.int .i64 (c 1),.int .i64 (c 2),.int .i64 (c 3),.int .i64 (c 4),.int .i64 (c 5),.slice tz tn tc,.int .i64 (c 7),.int .i64 (c 8)] 24)).alloc (Obj.cells #[.slice none 0 0,.slice none 0 0,.slice none 0 0] 35))
 obtain ⟨gC,hgC⟩:=qq (w.heap.size+1)
 obtain ⟨gR,hgR⟩:=qq (w.heap.size+1+1)
 rw [<-hW,<-hgR,<-hgC]
 have HK0:Hi (Ok w W):=by rw [hW];exact (((Ok.refl w).alloc _).alloc _).alloc _
 have HRR0:Hi (W.heap[gR]?=some (.cells #[.slice none 0 0,.slice none 0 0,.slice none 0 0] 35 (0,0))):=by rw [hW,hgR];exact jj
 have HRC0:Hi (W.heap[gC]?=some (.cells #[.int .i64 (c 0),.int .i64 (c 1),.int .i64 (c 2),.int .i64 (c 3),.int .i64 (c 4),.int .i64 (c 5),.slice tz tn tc,.int .i64 (c 7),.int .i64 (c 8)] 24 (0,0))):=by rw [hW,hgC];exact jj
 have HG:Hi (w.heap.size<=gR/\w.heap.size<=gC/\gC≠gR):=by unfold Hi;omega
 clear hW hgR hgC
 refine (HL.o W HK0.o).mono ?_
 rintro e w1 hv
 unfold LwIs at hv
 obtain ⟨⟨u,eo,ec,rfl,hu,hes⟩,hk1⟩:=hv
 have HU:Hi (∀ i,i<6->∃ ao n c,u i=.slice ao n c):=hu
 have HES:Hi (w1.ownsRow 0 56 6 (.slice eo es.length ec) es.length (edL es)):=hes
 have HK1:Hi (Ok w w1):=HK0.o.step hk1
 have HRR1:Hi _:=Ok.row' hk1 HRR0.o
 have HRC1:Hi _:=Ok.row' hk1 HRC0.o
 have HON:Hi ((#[u 0,u 1,u 2,u 3,u 4,u 5,.int .i64 (NN:Nat),.int .i64 (x:Nat),.slice eo es.length ec]:Array Value).all (·.oneCell')=true):=by
  obtain ⟨g0,n0,k0,g1,n1,k1,g2,n2,k2,g3,n3,k3,g4,n4,k4,g5,n5,k5,e0,e1,e2,e3,e4,e5⟩:=slices6 hu
  unfold Hi
  rw [e0,e1,e2,e3,e4,e5]
  simp [Value.oneCell']
 clear hk1 HL hu hes
 go_wp2_with (first | (refine za8 rfl 42 _ _ rfl w1.heap.size 42 #[.slice none 0 0,.slice none 0 0,.slice none 0 0,.slice none 0 0,.slice none 0 0,.slice none 0 0,.int .i64 0,.int .i64 0,.slice none 0 0] #[u 0,u 1,u 2,u 3,u 4,u 5,.int .i64 (NN:Nat),.int .i64 (x:Nat),.slice eo es.length ec] (by rfl) (by rfl) (za3 _ _) infGr rfl HON.o ?_;obtain ⟨X,gL,hX,HKX,HKL⟩:=zl8 w1 #[u 0,u 1,u 2,u 3,u 4,u 5,.int .i64 (NN:Nat),.int .i64 (x:Nat),.slice eo es.length ec];rw [hX.1,hX.2];clear hX;obtain ⟨p0,p1,p2,p3,p4,p5,p6,p7,p8,lgp⟩:=row9 (Ok.row' HKX.o HRC1.o);obtain ⟨q0,q1,q2,q3,q4,q5,q6,q7,q8,lgq⟩:=row9 HKL.o.1) | fail)
 refine (HS.o X (gA u NN x (.slice eo es.length ec)) (HK1.o.step HKX.o) rfl (fun i hi=>by have h1:=HU.o i hi;match i,hi with | 0,_=>exact h1 | 1,_=>exact h1 | 2,_=>exact h1 | 3,_=>exact h1 | 4,_=>exact h1 | 5,_=>exact h1) ⟨_,rfl⟩ (za1 HES.o HKX.o)).mono ?_
 rintro e w2 hv
 unfold SpIs at hv
 obtain ⟨vv,lv,mv,rfl,h1,h2,h3,hk2⟩:=hv
 have HV:Hi (VsOwn w2 X.heap.size vv R.2.1/\w2.ownsRow X.heap.size 58 3 lv R.2.2.length (lkL R.2.2)/\w2.ownsRow X.heap.size 3 1 mv (mgL NN R.1).length (ilL (mgL NN R.1))):=⟨h1,h2,h3⟩
 have HK2:Hi (Ok X w2):=hk2
 have hone:(#[vv,lv,mv]:Array Value).all (·.oneCell')=true:=by
  obtain ⟨tl,z1,z2,z3⟩:=h1
  obtain ⟨_,_,rfl⟩:=za0 z2
  obtain ⟨_,_,rfl⟩:=za0 h2
  obtain ⟨_,_,rfl⟩:=za0 h3
  simp [Value.oneCell']
 have HO:Hi ((#[vv,lv,mv]:Array Value).all (·.oneCell')=true):=hone
 clear h1 h2 h3 hk2 hone p0 p1 p2 p3 p4 p5 p6 p7 p8 lgp q0 q1 q2 q3 q4 q5 q6 q7 q8 lgq
 go_wp2_with (first | (refine za8 rfl 35 _ _ rfl gR 35 #[.slice none 0 0,.slice none 0 0,.slice none 0 0] #[vv,lv,mv] (by rfl) (by rfl) (Ok.row' (HKX.o.step HK2.o) HRR1.o) infPt rfl HO.o ?_) | fail)
 refine bodyPost_ret (zc0 rfl _ _ gR 35 #[vv,lv,mv] (0,0) _ rfl (setRow_heap _ _ _ _ _ _ (Ok.row' (HKX.o.step HK2.o) HRR1.o)) Tryz.underlying35 rfl infPt) rfl ?_
 have hle:=(HK1.o.step HKX.o).le
 have hgx:gR<X.heap.size:=za2 (Ok.row' HKX.o HRR1.o)
 have hs:∀ b,X.heap.size<=b->(w2.setRow gR #[vv,lv,mv]).heap[b]?=w2.heap[b]?:=fun b hb=>setRow_other _ _ _ _ (by omega)
 exact ⟨vv,lv,mv,rfl,VsOwn.base (HV.o.1.far fun b hb _=>hs b hb) hle,za7 (zb4 HV.o.2.1 fun b hb=>hs b (HV.o.2.1.lt b hb).1) hle,za7 (zb4 HV.o.2.2 fun b hb=>hs b (HV.o.2.2.lt b hb).1) hle,zd0 ((HK1.o.step HKX.o).step HK2.o) HG.o.1 _⟩
end
end Go.Proofs.YtbneneijdgcccaaGreatDoor
