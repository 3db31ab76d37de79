import Derived.DeepKeys4
import Derived.Test.YtenoopfeplalnaaGreatDoorKIe
set_option maxHeartbeats 8000000
set_option linter.all false
namespace Go.Proofs.YtenoopfeplalnaaGreatDoor
section
open Go.RowKit Go.Maps Go.Extern.Stop Go.Stop Go.Extern
def LwIs (w:World) (G:Option (Nat×Nat×List Ed)) (e:Ending) (w':World):Prop:=(match G with
 | none=>e=.returned (.tuple #[.agg #[.slice none 0 0,.slice none 0 0,.slice none 0 0,.slice none 0 0,.slice none 0 0,.slice none 0 0,.int .i64 0,.int .i64 0,.slice none 0 0],.int .i64 2])
 | some (N,x,es)=>∃ (u:Nat->Value) (eo:Option Addr) (ec:Nat),e=.returned (.tuple #[.agg #[u 0,u 1,u 2,u 3,u 4,u 5,.int .i64 (N:Nat),.int .i64 (x:Nat),.slice eo es.length ec],.int .i64 0])/\(∀ i,i<6->∃ ao n c,u i=.slice ao n c)/\w'.ownsRow 0 51 6 (.slice eo es.length ec) es.length (edL es))/\Ok w w'
def LoIs (w:World) (G:Option (Nat×Nat×List Ed)) (r:Int) (e:Ending) (w':World):Prop:=match G with
 | none=>LwIs w none e w'
 | some g=>if r=0 then LwIs w (some g) e w' else e=.returned (.tuple #[.agg #[.slice none 0 0,.slice none 0 0,.slice none 0 0,.slice none 0 0,.slice none 0 0,.slice none 0 0,.int .i64 0,.int .i64 0,.slice none 0 0],.int .i64 r])/\Ok w w'
theorem infGr:(Tryz.prog.info? 46).map (·.size)=some 9:=by kernel_rfl
theorem yc9:(#[.slice none 0 0,.slice none 0 0,.slice none 0 0,.slice none 0 0,.slice none 0 0,.slice none 0 0,.int .i64 0,.int .i64 0,.slice none 0 0]:Array Value).all (·.oneCell')=true:=by simp [Value.oneCell']
set_option maxRecDepth 100000 in
theorem zJ7 (v:Nat->Value) (c:Nat->Int) (ts:List Int) (tz:Option Addr) (tc:Nat) (r:Int) (w:World) (h:∀ Y,Ok w Y->Calls Tryz.prog 19 #[.agg #[v 0,v 1,v 2,v 3,v 4,v 5]] Y fun e w'=>LwIs Y none e w'):Calls Tryz.prog 10 #[.agg #[v 0,v 1,v 2,v 3,v 4,v 5],.agg #[.int .i64 (c 0),.int .i64 (c 1),.int .i64 (c 2),.int .i64 (c 3),.int .i64 (c 4),.int .i64 (c 5),.slice tz ts.length tc,.int .i64 (c 7),.int .i64 (c 8)]] w fun e w'=>LoIs w none r e w':=by
 have HL:=hid h
 clear h
 obtain ⟨N,hN⟩:∃ z,z=ts.length:=⟨_,rfl⟩
 rw [<-hN]
 clear hN
 go_enter Tryz.func10,Tryz.ntmps10
 go_wp2_with fail
 obtain ⟨W,hW⟩:∃ z,z=((w.alloc (Obj.cells #[v 0,v 1,v 2,v 3,v 4,v 5] 30)).alloc (Obj.cells #[.int .i64 (c 0),.int .i64 (c 1),.int .i64 (c 2),.int .i64 (c 3),.int .i64 (c 4),.int .i64 (c 5),.slice tz N tc,.int .i64 (c 7),.int .i64 (c 8)] 24)).alloc (Obj.cells #[.slice none 0 0,.slice none 0 0,.slice none 0 0,.slice none 0 0,.slice none 0 0,.slice none 0 0,.int .i64 0,.int .i64 0,.slice none 0 0] 46):=⟨_,rfl⟩
 obtain ⟨gC,hgC⟩:∃ z,z=w.heap.size+1:=⟨_,rfl⟩
 obtain ⟨gR,hgR⟩:∃ z,z=w.heap.size+1+1:=⟨_,rfl⟩
 rw [<-hW,<-hgR,<-hgC]
 have HK0:Hid (Ok w W):=by unfold Hid;rw [hW];exact (((Ok.refl w).alloc _).alloc _).alloc _
 have HRR0:Hid (W.heap[gR]?=some (.cells #[.slice none 0 0,.slice none 0 0,.slice none 0 0,.slice none 0 0,.slice none 0 0,.slice none 0 0,.int .i64 0,.int .i64 0,.slice none 0 0] 46 (0,0))):=by unfold Hid;rw [hW,hgR];exact (by repeat (first | (refine heap_at _ _ _ ?hx; case hx => (first | (simp; done) | (simp; omega))) | (refine heap_past _ _ _ ?hy ?_; case hy => (first | (simp; done) | (simp; omega))) | fail))
 have HRC0:Hid (W.heap[gC]?=some (.cells #[Value.int IntKind.i64 (c 0),Value.int IntKind.i64 (c 1),Value.int IntKind.i64 (c 2),Value.int IntKind.i64 (c 3),Value.int IntKind.i64 (c 4),Value.int IntKind.i64 (c 5),Value.slice tz N tc,Value.int IntKind.i64 (c 7),Value.int IntKind.i64 (c 8)] 24 (0,0))):=by unfold Hid;rw [hW,hgC];exact (by repeat (first | (refine heap_at _ _ _ ?hx; case hx => (first | (simp; done) | (simp; omega))) | (refine heap_past _ _ _ ?hy ?_; case hy => (first | (simp; done) | (simp; omega))) | fail))
 have HG:Hid (w.heap.size<=gR/\w.heap.size<=gC/\gC≠gR):=by unfold Hid;omega
 clear hW hgR hgC
 refine (HL.out W HK0.out).mono ?_
 rintro e w1 hv
 unfold LwIs at hv
 obtain ⟨rfl,hk1⟩:=hv
 have HK1:Hid (Ok w w1):=HK0.out.step hk1
 have HRR1:Hid _:=Ok.row' hk1 HRR0.out
 have HNE:Hid (gR≠w1.heap.size):=by have:=za2 HRR1.out;unfold Hid;omega
 clear hk1 HL HRC0
 go_wp2_with (first | (refine za9 rfl 46 _ _ rfl w1.heap.size 46 #[.slice none 0 0,.slice none 0 0,.slice none 0 0,.slice none 0 0,.slice none 0 0,.slice none 0 0,.int .i64 0,.int .i64 0,.slice none 0 0] #[.slice none 0 0,.slice none 0 0,.slice none 0 0,.slice none 0 0,.slice none 0 0,.slice none 0 0,.int .i64 0,.int .i64 0,.slice none 0 0] (by rfl) (by rfl) (za4 _ _) infGr rfl yc9 ?_;obtain ⟨X,hX⟩:∃ z,z=(w1.alloc (Obj.cells #[.slice none 0 0,.slice none 0 0,.slice none 0 0,.slice none 0 0,.slice none 0 0,.slice none 0 0,.int .i64 0,.int .i64 0,.slice none 0 0] 46)).setRow w1.heap.size #[.slice none 0 0,.slice none 0 0,.slice none 0 0,.slice none 0 0,.slice none 0 0,.slice none 0 0,.int .i64 0,.int .i64 0,.slice none 0 0]:=⟨_,rfl⟩;rw [<-hX];have HKX:Hid (Ok w1 X):=(by unfold Hid;rw [hX];exact ze4 ((Ok.refl w1).alloc _) (Nat.le_refl _) _);clear hX) | (refine za9 rfl 46 _ _ rfl gR 46 #[.slice none 0 0,.slice none 0 0,.slice none 0 0,.slice none 0 0,.slice none 0 0,.slice none 0 0,.int .i64 0,.int .i64 0,.slice none 0 0] #[.slice none 0 0,.slice none 0 0,.slice none 0 0,.slice none 0 0,.slice none 0 0,.slice none 0 0,.int .i64 0,.int .i64 0,.slice none 0 0] (by rfl) (by rfl) (Ok.row' HKX.out HRR1.out) infGr rfl yc9 ?_) | fail)
 refine bodyPost_ret (zc1 rfl _ _ gR 46 #[_,_,_,_,_,_,_,_,_] (0,0) _ rfl (setRow_heap _ _ _ _ _ _ (Ok.row' HKX.out HRR1.out)) Tryz.underlying46 rfl infGr) rfl ?_
 exact ⟨rfl,ze4 (HK1.out.step HKX.out) HG.out.1 _⟩
theorem slices6 {u:Nat->Value} (h:∀ i,i<6->∃ ao n c,u i=.slice ao n c):∃ g0 n0 k0 g1 n1 k1 g2 n2 k2 g3 n3 k3 g4 n4 k4 g5 n5 k5,u 0=.slice g0 n0 k0/\u 1=.slice g1 n1 k1/\u 2=.slice g2 n2 k2/\u 3=.slice g3 n3 k3/\u 4=.slice g4 n4 k4/\u 5=.slice g5 n5 k5:=by
 obtain ⟨g0,n0,k0,e0⟩:=h 0 (by decide)
 obtain ⟨g1,n1,k1,e1⟩:=h 1 (by decide)
 obtain ⟨g2,n2,k2,e2⟩:=h 2 (by decide)
 obtain ⟨g3,n3,k3,e3⟩:=h 3 (by decide)
 obtain ⟨g4,n4,k4,e4⟩:=h 4 (by decide)
 obtain ⟨g5,n5,k5,e5⟩:=h 5 (by decide)
 exact ⟨g0,n0,k0,g1,n1,k1,g2,n2,k2,g3,n3,k3,g4,n4,k4,g5,n5,k5,e0,e1,e2,e3,e4,e5⟩
theorem zo4 (w:World) (cs:Array Value):∃ (X:World) (g:Nat),((w.alloc (Obj.cells #[.slice none 0 0,.slice none 0 0,.slice none 0 0,.slice none 0 0,.slice none 0 0,.slice none 0 0,.int .i64 0,.int .i64 0,.slice none 0 0] 46)).setRow w.heap.size cs=X/\w.heap.size=g)/\Hid (Ok w X)/\Hid (X.heap[g]?=some (.cells cs 46 (0,0))/\w.heap.size<=g) :=
 ⟨_,_,⟨rfl,rfl⟩,ze4 ((Ok.refl w).alloc _) (Nat.le_refl _) _,setRow_heap _ _ _ _ _ _ (za4 _ _),Nat.le_refl _⟩
set_option maxRecDepth 100000 in
theorem yd0 (v:Nat->Value) (c:Nat->Int) (ts:List Int) (tz:Option Addr) (tc:Nat) (NN x:Nat) (es:List Ed) (w:World) (h:∀ Y,Ok w Y->Calls Tryz.prog 19 #[.agg #[v 0,v 1,v 2,v 3,v 4,v 5]] Y fun e w'=>LwIs Y (some (NN,x,es)) e w') (hC:∀ Y,Ok w Y->Calls Tryz.prog 21 #[.agg #[.int .i64 (c 0),.int .i64 (c 1),.int .i64 (c 2),.int .i64 (c 3),.int .i64 (c 4),.int .i64 (c 5),.slice tz ts.length tc,.int .i64 (c 7),.int .i64 (c 8)]] Y fun e w'=>CkIs Y 0 e w'):Calls Tryz.prog 10 #[.agg #[v 0,v 1,v 2,v 3,v 4,v 5],.agg #[.int .i64 (c 0),.int .i64 (c 1),.int .i64 (c 2),.int .i64 (c 3),.int .i64 (c 4),.int .i64 (c 5),.slice tz ts.length tc,.int .i64 (c 7),.int .i64 (c 8)]] w fun e w'=>LwIs w (some (NN,x,es)) e w':=by
 have HL:=hid h
 have HC:=hid hC
 clear h hC
 obtain ⟨N,hN⟩:∃ z,z=ts.length:=⟨_,rfl⟩
 rw [<-hN] at HC
 rw [<-hN]
 clear hN
 go_enter Tryz.func10,Tryz.ntmps10
 go_wp2_with fail
 obtain ⟨W,hW⟩:∃ z,z=((w.alloc (Obj.cells #[v 0,v 1,v 2,v 3,v 4,v 5] 30)).alloc (Obj.cells #[.int .i64 (c 0),.int .i64 (c 1),.int .i64 (c 2),.int .i64 (c 3),.int .i64 (c 4),.int .i64 (c 5),.slice tz N tc,.int .i64 (c 7),.int .i64 (c 8)] 24)).alloc (Obj.cells #[.slice none 0 0,.slice none 0 0,.slice none 0 0,.slice none 0 0,.slice none 0 0,.slice none 0 0,.int .i64 0,.int .i64 0,.slice none 0 0] 46):=⟨_,rfl⟩
 obtain ⟨gC,hgC⟩:∃ z,z=w.heap.size+1:=⟨_,rfl⟩
 obtain ⟨gR,hgR⟩:∃ z,z=w.heap.size+1+1:=⟨_,rfl⟩
 rw [<-hW,<-hgR,<-hgC]
 have HK0:Hid (Ok w W):=by unfold Hid;rw [hW];exact (((Ok.refl w).alloc _).alloc _).alloc _
 have HRR0:Hid (W.heap[gR]?=some (.cells #[.slice none 0 0,.slice none 0 0,.slice none 0 0,.slice none 0 0,.slice none 0 0,.slice none 0 0,.int .i64 0,.int .i64 0,.slice none 0 0] 46 (0,0))):=by unfold Hid;rw [hW,hgR];exact (by repeat (first | (refine heap_at _ _ _ ?hx; case hx => (first | (simp; done) | (simp; omega))) | (refine heap_past _ _ _ ?hy ?_; case hy => (first | (simp; done) | (simp; omega))) | fail))
 have HRC0:Hid (W.heap[gC]?=some (.cells #[Value.int IntKind.i64 (c 0),Value.int IntKind.i64 (c 1),Value.int IntKind.i64 (c 2),Value.int IntKind.i64 (c 3),Value.int IntKind.i64 (c 4),Value.int IntKind.i64 (c 5),Value.slice tz N tc,Value.int IntKind.i64 (c 7),Value.int IntKind.i64 (c 8)] 24 (0,0))):=by unfold Hid;rw [hW,hgC];exact (by repeat (first | (refine heap_at _ _ _ ?hx; case hx => (first | (simp; done) | (simp; omega))) | (refine heap_past _ _ _ ?hy ?_; case hy => (first | (simp; done) | (simp; omega))) | fail))
 have HG:Hid (w.heap.size<=gR/\w.heap.size<=gC/\gC≠gR):=by unfold Hid;omega
 clear hW hgR hgC
 refine (HL.out W HK0.out).mono ?_
 rintro e w1 hv
 unfold LwIs at hv
 obtain ⟨⟨u,eo,ec,rfl,hu,hes⟩,hk1⟩:=hv
 have HU:Hid (∀ i,i<6->∃ ao n c,u i=.slice ao n c):=hu
 have HES:Hid (w1.ownsRow 0 51 6 (.slice eo es.length ec) es.length (edL es)):=hes
 have HK1:Hid (Ok w w1):=HK0.out.step hk1
 have HRR1:Hid _:=Ok.row' hk1 HRR0.out
 have HRC1:Hid _:=Ok.row' hk1 HRC0.out
 have HON:Hid ((#[u 0,u 1,u 2,u 3,u 4,u 5,.int .i64 (NN:Nat),.int .i64 (x:Nat),.slice eo es.length ec]:Array Value).all (·.oneCell')=true):=by
  obtain ⟨g0,n0,k0,g1,n1,k1,g2,n2,k2,g3,n3,k3,g4,n4,k4,g5,n5,k5,e0,e1,e2,e3,e4,e5⟩:=slices6 hu
  unfold Hid
  rw [e0,e1,e2,e3,e4,e5]
  simp [Value.oneCell']
 clear hk1 HL hu hes
 go_wp2_with (first | (refine za9 rfl 46 _ _ rfl w1.heap.size 46 #[.slice none 0 0,.slice none 0 0,.slice none 0 0,.slice none 0 0,.slice none 0 0,.slice none 0 0,.int .i64 0,.int .i64 0,.slice none 0 0] #[u 0,u 1,u 2,u 3,u 4,u 5,.int .i64 (NN:Nat),.int .i64 (x:Nat),.slice eo es.length ec] (by rfl) (by rfl) (za4 _ _) infGr rfl HON.out ?_;obtain ⟨X,gL,hX,HKX,HKL⟩:=zo4 w1 #[u 0,u 1,u 2,u 3,u 4,u 5,.int .i64 (NN:Nat),.int .i64 (x:Nat),.slice eo es.length ec];rw [hX.1,hX.2];clear hX;obtain ⟨p0,p1,p2,p3,p4,p5,p6,p7,p8,lgp⟩:=row9 (Ok.row' HKX.out HRC1.out)) | fail)
 refine (HC.out _ ((HK1.out.step HKX.out).alloc _)).mono ?_
 rintro e w2 hv
 obtain ⟨hv,hk2⟩:=hv
 obtain rfl:e=.returned .nilIface:=hv.elim (fun h=>h.2) (fun h=>absurd rfl h.1)
 clear hv
 have HK2:Hid (Ok X w2):=((Ok.refl X).alloc _).step hk2
 clear hk2 p0 p1 p2 p3 p4 p5 p6 p7 p8 lgp
 go_wp2_with (first | (refine (yB7 _ _).mono ?_;rintro e w3 ⟨rfl,rfl⟩;obtain ⟨p0,p1,p2,p3,p4,p5,p6,p7,p8,lgp⟩:=row9 (Ok.row' HK2.out HKL.out.1)) | (refine za9 rfl 46 _ _ rfl gR 46 #[.slice none 0 0,.slice none 0 0,.slice none 0 0,.slice none 0 0,.slice none 0 0,.slice none 0 0,.int .i64 0,.int .i64 0,.slice none 0 0] #[u 0,u 1,u 2,u 3,u 4,u 5,.int .i64 (NN:Nat),.int .i64 (x:Nat),.slice eo es.length ec] (by rfl) (by rfl) (Ok.row' (HKX.out.step HK2.out) HRR1.out) infGr rfl HON.out ?_;clear p0 p1 p2 p3 p4 p5 p6 p7 p8 lgp) | fail)
 refine bodyPost_ret (zc1 rfl _ _ gR 46 #[u 0,u 1,u 2,u 3,u 4,u 5,.int .i64 (NN:Nat),.int .i64 (x:Nat),.slice eo es.length ec] (0,0) _ rfl (setRow_heap _ _ _ _ _ _ (Ok.row' (HKX.out.step HK2.out) HRR1.out)) Tryz.underlying46 rfl infGr) rfl ?_
 refine ⟨⟨u,eo,ec,rfl,HU.out,?_⟩,ze4 ((HK1.out.step HKX.out).step HK2.out) HG.out.1 _⟩
 refine zb4 (za1 HES.out (HKX.out.step HK2.out)) fun b hb=>setRow_other _ _ _ _ ?_
 intro e9
 obtain ⟨cg,fg,hgg⟩:=zg7 HES.out b hb
 rw [e9,HRR1.out] at hgg
 injection hgg with hgg
 injection hgg with _ hgg
 exact absurd hgg (by decide)
end
section
open Go.RowKit Go.Maps Go.Extern.Stop Go.Stop Go.Extern
theorem yo5 {W:World} {g:Nat} {x:Option Obj} (h:W.heap[g]?=x):W.drew.heap[g]?=x:=h
theorem yy3 {w0 W:World} (h:Ok w0 W):Ok w0 W.drew:=h.draws 1
theorem yo6 {w:World} {g:Nat} {a0 a1 a2 a3 a4 a5 a6 a7 a8:Value} {t:TypeId} (hg:w.heap[g]?=some (.cells #[a0,a1,a2,a3,a4,a5,a6,a7,a8] t (0,0))) (b0 b1 b2 b3 b4 b5 b6 b7 b8:Value):(((((((((w.setCell ⟨g,0,none⟩ b0).setCell ⟨g,1,none⟩ b1).setCell ⟨g,2,none⟩ b2).setCell ⟨g,3,none⟩ b3).setCell ⟨g,4,none⟩ b4).setCell ⟨g,5,none⟩ b5).setCell ⟨g,6,none⟩ b6).setCell ⟨g,7,none⟩ b7).setCell ⟨g,8,none⟩ b8).heap[g]?=some (.cells #[b0,b1,b2,b3,b4,b5,b6,b7,b8] t (0,0)):=by
 have h0:(w.setCell ⟨g,0,none⟩ b0).heap[g]?=some (.cells #[b0,a1,a2,a3,a4,a5,a6,a7,a8] t (0,0)):=heap_setCell_same _ g 0 _ t b0 hg
 have h1:((w.setCell ⟨g,0,none⟩ b0).setCell ⟨g,1,none⟩ b1).heap[g]?=some (.cells #[b0,b1,a2,a3,a4,a5,a6,a7,a8] t (0,0)):=heap_setCell_same _ g 1 _ t b1 h0
 have h2:(((w.setCell ⟨g,0,none⟩ b0).setCell ⟨g,1,none⟩ b1).setCell ⟨g,2,none⟩ b2).heap[g]?=some (.cells #[b0,b1,b2,a3,a4,a5,a6,a7,a8] t (0,0)):=heap_setCell_same _ g 2 _ t b2 h1
 have h3:((((w.setCell ⟨g,0,none⟩ b0).setCell ⟨g,1,none⟩ b1).setCell ⟨g,2,none⟩ b2).setCell ⟨g,3,none⟩ b3).heap[g]?=some (.cells #[b0,b1,b2,b3,a4,a5,a6,a7,a8] t (0,0)):=heap_setCell_same _ g 3 _ t b3 h2
 have h4:(((((w.setCell ⟨g,0,none⟩ b0).setCell ⟨g,1,none⟩ b1).setCell ⟨g,2,none⟩ b2).setCell ⟨g,3,none⟩ b3).setCell ⟨g,4,none⟩ b4).heap[g]?=some (.cells #[b0,b1,b2,b3,b4,a5,a6,a7,a8] t (0,0)):=heap_setCell_same _ g 4 _ t b4 h3
 have h5:((((((w.setCell ⟨g,0,none⟩ b0).setCell ⟨g,1,none⟩ b1).setCell ⟨g,2,none⟩ b2).setCell ⟨g,3,none⟩ b3).setCell ⟨g,4,none⟩ b4).setCell ⟨g,5,none⟩ b5).heap[g]?=some (.cells #[b0,b1,b2,b3,b4,b5,a6,a7,a8] t (0,0)):=heap_setCell_same _ g 5 _ t b5 h4
 have h6:(((((((w.setCell ⟨g,0,none⟩ b0).setCell ⟨g,1,none⟩ b1).setCell ⟨g,2,none⟩ b2).setCell ⟨g,3,none⟩ b3).setCell ⟨g,4,none⟩ b4).setCell ⟨g,5,none⟩ b5).setCell ⟨g,6,none⟩ b6).heap[g]?=some (.cells #[b0,b1,b2,b3,b4,b5,b6,a7,a8] t (0,0)):=heap_setCell_same _ g 6 _ t b6 h5
 have h7:((((((((w.setCell ⟨g,0,none⟩ b0).setCell ⟨g,1,none⟩ b1).setCell ⟨g,2,none⟩ b2).setCell ⟨g,3,none⟩ b3).setCell ⟨g,4,none⟩ b4).setCell ⟨g,5,none⟩ b5).setCell ⟨g,6,none⟩ b6).setCell ⟨g,7,none⟩ b7).heap[g]?=some (.cells #[b0,b1,b2,b3,b4,b5,b6,b7,a8] t (0,0)):=heap_setCell_same _ g 7 _ t b7 h6
 have h8:(((((((((w.setCell ⟨g,0,none⟩ b0).setCell ⟨g,1,none⟩ b1).setCell ⟨g,2,none⟩ b2).setCell ⟨g,3,none⟩ b3).setCell ⟨g,4,none⟩ b4).setCell ⟨g,5,none⟩ b5).setCell ⟨g,6,none⟩ b6).setCell ⟨g,7,none⟩ b7).setCell ⟨g,8,none⟩ b8).heap[g]?=some (.cells #[b0,b1,b2,b3,b4,b5,b6,b7,b8] t (0,0)):=heap_setCell_same _ g 8 _ t b8 h7
 exact h8
theorem yy4 {w0 w:World} {g:Nat} (h:Ok w0 w) (hg:w0.heap.size<=g) (b0 b1 b2 b3 b4 b5 b6 b7 b8:Value):Ok w0 (((((((((w.setCell ⟨g,0,none⟩ b0).setCell ⟨g,1,none⟩ b1).setCell ⟨g,2,none⟩ b2).setCell ⟨g,3,none⟩ b3).setCell ⟨g,4,none⟩ b4).setCell ⟨g,5,none⟩ b5).setCell ⟨g,6,none⟩ b6).setCell ⟨g,7,none⟩ b7).setCell ⟨g,8,none⟩ b8):=(((((((((h.set (p:=⟨g,0,none⟩) hg b0).set (p:=⟨g,1,none⟩) hg b1).set (p:=⟨g,2,none⟩) hg b2).set (p:=⟨g,3,none⟩) hg b3).set (p:=⟨g,4,none⟩) hg b4).set (p:=⟨g,5,none⟩) hg b5).set (p:=⟨g,6,none⟩) hg b6).set (p:=⟨g,7,none⟩) hg b7).set (p:=⟨g,8,none⟩) hg b8)
set_option maxRecDepth 100000 in
theorem zS9 (v:Nat->Value) (c:Nat->Int) (ts:List Int) (tz:Option Addr) (tc:Nat) (NN x:Nat) (es:List Ed) (r:Int) (hr:r≠0) (w:World) (hE:w.cell? ⟨0,0,none⟩=some (.iface 174 (.agg #[.pointer (some ⟨8,81,none⟩)]))) (h:∀ Y,Ok w Y->Calls Tryz.prog 19 #[.agg #[v 0,v 1,v 2,v 3,v 4,v 5]] Y fun e w'=>LwIs Y (some (NN,x,es)) e w') (hC:∀ Y,Ok w Y->Calls Tryz.prog 21 #[.agg #[.int .i64 (c 0),.int .i64 (c 1),.int .i64 (c 2),.int .i64 (c 3),.int .i64 (c 4),.int .i64 (c 5),.slice tz ts.length tc,.int .i64 (c 7),.int .i64 (c 8)]] Y fun e w'=>CkIs Y r e w'):Calls Tryz.prog 10 #[.agg #[v 0,v 1,v 2,v 3,v 4,v 5],.agg #[.int .i64 (c 0),.int .i64 (c 1),.int .i64 (c 2),.int .i64 (c 3),.int .i64 (c 4),.int .i64 (c 5),.slice tz ts.length tc,.int .i64 (c 7),.int .i64 (c 8)]] w fun e w'=>e=.returned (.tuple #[.agg #[.slice none 0 0,.slice none 0 0,.slice none 0 0,.slice none 0 0,.slice none 0 0,.slice none 0 0,.int .i64 0,.int .i64 0,.slice none 0 0],.int .i64 r])/\Ok w w':=by
 have HL:=hid h
 have HC:=hid hC
 have HR0:=hid hr
 have HE:=hid hE
 clear h hC hr hE
 obtain ⟨N,hN⟩:∃ z,z=ts.length:=⟨_,rfl⟩
 rw [<-hN] at HC
 rw [<-hN]
 clear hN
 go_enter Tryz.func10,Tryz.ntmps10
 go_wp2_with fail
 obtain ⟨W,hW⟩:∃ z,z=((w.alloc (Obj.cells #[v 0,v 1,v 2,v 3,v 4,v 5] 30)).alloc (Obj.cells #[.int .i64 (c 0),.int .i64 (c 1),.int .i64 (c 2),.int .i64 (c 3),.int .i64 (c 4),.int .i64 (c 5),.slice tz N tc,.int .i64 (c 7),.int .i64 (c 8)] 24)).alloc (Obj.cells #[.slice none 0 0,.slice none 0 0,.slice none 0 0,.slice none 0 0,.slice none 0 0,.slice none 0 0,.int .i64 0,.int .i64 0,.slice none 0 0] 46):=⟨_,rfl⟩
 obtain ⟨gC,hgC⟩:∃ z,z=w.heap.size+1:=⟨_,rfl⟩
 obtain ⟨gR,hgR⟩:∃ z,z=w.heap.size+1+1:=⟨_,rfl⟩
 rw [<-hW,<-hgR,<-hgC]
 have HK0:Hid (Ok w W):=by unfold Hid;rw [hW];exact (((Ok.refl w).alloc _).alloc _).alloc _
 have HRR0:Hid (W.heap[gR]?=some (.cells #[.slice none 0 0,.slice none 0 0,.slice none 0 0,.slice none 0 0,.slice none 0 0,.slice none 0 0,.int .i64 0,.int .i64 0,.slice none 0 0] 46 (0,0))):=by unfold Hid;rw [hW,hgR];exact (by repeat (first | (refine heap_at _ _ _ ?hx; case hx => (first | (simp; done) | (simp; omega))) | (refine heap_past _ _ _ ?hy ?_; case hy => (first | (simp; done) | (simp; omega))) | fail))
 have HRC0:Hid (W.heap[gC]?=some (.cells #[Value.int IntKind.i64 (c 0),Value.int IntKind.i64 (c 1),Value.int IntKind.i64 (c 2),Value.int IntKind.i64 (c 3),Value.int IntKind.i64 (c 4),Value.int IntKind.i64 (c 5),Value.slice tz N tc,Value.int IntKind.i64 (c 7),Value.int IntKind.i64 (c 8)] 24 (0,0))):=by unfold Hid;rw [hW,hgC];exact (by repeat (first | (refine heap_at _ _ _ ?hx; case hx => (first | (simp; done) | (simp; omega))) | (refine heap_past _ _ _ ?hy ?_; case hy => (first | (simp; done) | (simp; omega))) | fail))
 have HG:Hid (w.heap.size<=gR/\w.heap.size<=gC/\gC≠gR):=by unfold Hid;omega
 clear hW hgR hgC
 refine (HL.out W HK0.out).mono ?_
 rintro e w1 hv
 unfold LwIs at hv
 obtain ⟨⟨u,eo,ec,rfl,hu,hes⟩,hk1⟩:=hv
 have HU:Hid (∀ i,i<6->∃ ao n c,u i=.slice ao n c):=hu
 have HES:Hid (w1.ownsRow 0 51 6 (.slice eo es.length ec) es.length (edL es)):=hes
 have HK1:Hid (Ok w w1):=HK0.out.step hk1
 have HRR1:Hid _:=Ok.row' hk1 HRR0.out
 have HRC1:Hid _:=Ok.row' hk1 HRC0.out
 have HON:Hid ((#[u 0,u 1,u 2,u 3,u 4,u 5,.int .i64 (NN:Nat),.int .i64 (x:Nat),.slice eo es.length ec]:Array Value).all (·.oneCell')=true):=by
  obtain ⟨g0,n0,k0,g1,n1,k1,g2,n2,k2,g3,n3,k3,g4,n4,k4,g5,n5,k5,e0,e1,e2,e3,e4,e5⟩:=slices6 hu
  unfold Hid
  rw [e0,e1,e2,e3,e4,e5]
  simp [Value.oneCell']
 clear hk1 HL hu hes
 go_wp2_with (first | (refine za9 rfl 46 _ _ rfl w1.heap.size 46 #[.slice none 0 0,.slice none 0 0,.slice none 0 0,.slice none 0 0,.slice none 0 0,.slice none 0 0,.int .i64 0,.int .i64 0,.slice none 0 0] #[u 0,u 1,u 2,u 3,u 4,u 5,.int .i64 (NN:Nat),.int .i64 (x:Nat),.slice eo es.length ec] (by rfl) (by rfl) (za4 _ _) infGr rfl HON.out ?_;obtain ⟨X,gL,hX,HKX,HKL⟩:=zo4 w1 #[u 0,u 1,u 2,u 3,u 4,u 5,.int .i64 (NN:Nat),.int .i64 (x:Nat),.slice eo es.length ec];rw [hX.1,hX.2];clear hX;obtain ⟨p0,p1,p2,p3,p4,p5,p6,p7,p8,lgp⟩:=row9 (Ok.row' HKX.out HRC1.out)) | fail)
 have HTP:Hid (X.heap.size≠gR):=by have h1:=za2 (Ok.row' HKX.out HRR1.out);unfold Hid;omega
 refine (HC.out _ ((HK1.out.step HKX.out).alloc _)).mono ?_
 rintro e w2 hv
 obtain ⟨hv,hk2⟩:=hv
 obtain ⟨b,hb,hbl,hbr,hbc⟩:∃ b:Nat,e=.returned (.iface 78 (.pointer (some ⟨b,0,none⟩)))/\(X.alloc (Obj.cells #[Value.pointer none] 78)).heap.size<=b/\b<w2.heap.size/\w2.cell? ⟨b,0,none⟩=some (.int .i64 r):=hv.elim (fun h=>absurd h.1 HR0.out) (fun h=>h.2)
 subst hb
 clear hv
 have hsz:=za2 (za4 X (Obj.cells #[Value.pointer none] 78))
 have HB:Hid (w2.cell? ⟨b,0,none⟩=some (.int .i64 r)/\b<w2.heap.size/\X.heap.size<b):=⟨hbc,hbr,by omega⟩
 obtain ⟨tP,htP⟩:∃ z,z=X.heap.size:=⟨_,rfl⟩
 have HTR:Hid (w2.heap[tP]?=some (.cells #[Value.pointer none] 78 (0,0))):=by unfold Hid;rw [htP];exact Ok.row' hk2 (za4 _ _)
 have HTE:Hid (tP=X.heap.size):=htP
 have HK2:Hid (Ok X w2):=((Ok.refl X).alloc _).step hk2
 rw [<-htP]
 clear hk2 p0 p1 p2 p3 p4 p5 p6 p7 p8 lgp htP hbc hbl hbr hsz
 go_wp2_with fail
 refine (yB9 ⟨b,0,none⟩ tP (.pointer none) w2 (((HK1.out.step HKX.out).step HK2.out).cell (p:=⟨0,0,none⟩) (zi9 HE.out) HE.out) ((cell_of_row _ _ 0 _ _ _ HTR.out).trans rfl) (frozen_of_row _ _ _ _ _ HTR.out)).mono ?_
 rintro e w3 ⟨rfl,w4,hk4,hw3⟩
 have HRZ:Hid (w3.heap[gR]?=some (.cells #[.slice none 0 0,.slice none 0 0,.slice none 0 0,.slice none 0 0,.slice none 0 0,.slice none 0 0,.int .i64 0,.int .i64 0,.slice none 0 0] 46 (0,0))):=by unfold Hid;rw [hw3];exact zk1 (Ok.row' ((HKX.out.step HK2.out).step hk4) HRR1.out) (by rw [HTE.out];exact HTP.out.symm) _
 have hb3:w3.cell? ⟨b,0,none⟩=some (.int .i64 r):=by rw [hw3,World.cell?_setCell_far _ _ _ _ (by have:=HB.out.2.2;have:=HTE.out;show tP≠b;omega)];exact hk4.cell (p:=⟨b,0,none⟩) HB.out.2.1 HB.out.1
 have ht3:w3.cell? ⟨tP,0,none⟩=some (.pointer (some ⟨b,0,none⟩)):=by rw [hw3];exact (cell_of_row _ _ 0 _ _ _ (heap_setCell_same w4 tP 0 _ _ _ (Ok.row' hk4 HTR.out))).trans rfl
 have HK3:Hid (Ok w w3):=by unfold Hid;rw [hw3];exact (((HK1.out.step HKX.out).step HK2.out).step hk4).set (by have h1:=HTE.out;have h2:=(HK1.out.step HKX.out).le;show w.heap.size<=tP;omega) _
 have lb3:b<w3.heap.size:=zi9 hb3
 have lt3:tP<w3.heap.size:=zi9 ht3
 clear hw3 hk4
 obtain ⟨p0,p1,p2,p3,p4,p5,p6,p7,p8,lgp⟩:=row9 HRZ.out
 have fz:∀ i,w3.frozen? ⟨gR,i,none⟩=false:=fun i=>frozen_of_row _ _ _ _ _ HRZ.out
 have hbg:¬b=gR:=by have:=HB.out.2.2;have:=za2 (Ok.row' HKX.out HRR1.out);omega
 have htg:¬tP=gR:=by have:=HTP.out;have:=HTE.out;omega
 have hgb:¬gR=b:=fun e=>hbg e.symm
 have hgt:¬gR=tP:=fun e=>htg e.symm
 have HRY:Hid ((((((((((w3.setCell ⟨gR,0,none⟩ (.slice none 0 0)).setCell ⟨gR,1,none⟩ (.slice none 0 0)).setCell ⟨gR,2,none⟩ (.slice none 0 0)).setCell ⟨gR,3,none⟩ (.slice none 0 0)).setCell ⟨gR,4,none⟩ (.slice none 0 0)).setCell ⟨gR,5,none⟩ (.slice none 0 0)).setCell ⟨gR,6,none⟩ (.int .i64 0)).setCell ⟨gR,7,none⟩ (.int .i64 0)).setCell ⟨gR,8,none⟩ (.slice none 0 0)).drew.heap[gR]?=some (.cells #[.slice none 0 0,.slice none 0 0,.slice none 0 0,.slice none 0 0,.slice none 0 0,.slice none 0 0,.int .i64 0,.int .i64 0,.slice none 0 0] 46 (0,0))):=yo5 (yo6 HRZ.out _ _ _ _ _ _ _ _ _)
 have HKY:Hid (Ok w (((((((((w3.setCell ⟨gR,0,none⟩ (.slice none 0 0)).setCell ⟨gR,1,none⟩ (.slice none 0 0)).setCell ⟨gR,2,none⟩ (.slice none 0 0)).setCell ⟨gR,3,none⟩ (.slice none 0 0)).setCell ⟨gR,4,none⟩ (.slice none 0 0)).setCell ⟨gR,5,none⟩ (.slice none 0 0)).setCell ⟨gR,6,none⟩ (.int .i64 0)).setCell ⟨gR,7,none⟩ (.int .i64 0)).setCell ⟨gR,8,none⟩ (.slice none 0 0)).drew):=yy3 (yy4 HK3.out HG.out.1 _ _ _ _ _ _ _ _ _)
 go_upto_region 6 with (fail)
 go_region_held3 (fun w'=>w'.cell? ⟨tP,0,none⟩=some (.pointer (some ⟨b,0,none⟩))/\w'.cell? ⟨b,0,none⟩=some (.int .i64 r)) (simp (maxDischargeDepth:=20) [*,World.cell?_setCell_far]) (fail)
 clear p0 p1 p2 p3 p4 p5 p6 p7 p8 fz hb3 ht3
 obtain ⟨Y,hY⟩:∃ z,z=(((((((((w3.setCell ⟨gR,0,none⟩ (.slice none 0 0)).setCell ⟨gR,1,none⟩ (.slice none 0 0)).setCell ⟨gR,2,none⟩ (.slice none 0 0)).setCell ⟨gR,3,none⟩ (.slice none 0 0)).setCell ⟨gR,4,none⟩ (.slice none 0 0)).setCell ⟨gR,5,none⟩ (.slice none 0 0)).setCell ⟨gR,6,none⟩ (.int .i64 0)).setCell ⟨gR,7,none⟩ (.int .i64 0)).setCell ⟨gR,8,none⟩ (.slice none 0 0)).drew:=⟨_,rfl⟩
 rw [<-hY] at HRY HKY ⊢
 clear hY
 go_wp2_with fail
 refine bodyPost_ret (zc1 rfl _ _ gR 46 #[.slice none 0 0,.slice none 0 0,.slice none 0 0,.slice none 0 0,.slice none 0 0,.slice none 0 0,.int .i64 0,.int .i64 0,.slice none 0 0] (0,0) _ rfl HRY.out Tryz.underlying46 rfl infGr) rfl ?_
 exact ⟨rfl,HKY.out⟩
end
section
open Go.RowKit Go.Maps
set_option maxRecDepth 100000 in
theorem zx0 (v:Nat->Value) (c:Nat->Int) (tz:Option Addr) (tn tc:Nat) (r:Int) (hr:r≠0) (w:World) (h:∀ Y,Ok w Y->Calls Tryz.prog 10 #[.agg #[v 0,v 1,v 2,v 3,v 4,v 5],.agg #[.int .i64 (c 0),.int .i64 (c 1),.int .i64 (c 2),.int .i64 (c 3),.int .i64 (c 4),.int .i64 (c 5),.slice tz tn tc,.int .i64 (c 7),.int .i64 (c 8)]] Y fun e w'=>e=.returned (.tuple #[.agg #[.slice none 0 0,.slice none 0 0,.slice none 0 0,.slice none 0 0,.slice none 0 0,.slice none 0 0,.int .i64 0,.int .i64 0,.slice none 0 0],.int .i64 r])/\Ok Y w'):Calls Tryz.prog 5 #[.agg #[v 0,v 1,v 2,v 3,v 4,v 5],.agg #[.int .i64 (c 0),.int .i64 (c 1),.int .i64 (c 2),.int .i64 (c 3),.int .i64 (c 4),.int .i64 (c 5),.slice tz tn tc,.int .i64 (c 7),.int .i64 (c 8)]] w fun e w'=>e=.returned (.tuple #[.agg #[.slice none 0 0,.slice none 0 0,.slice none 0 0],.int .i64 r])/\Ok w w':=by
 have HL:=hid h
 have hrb:(r != 0)=true:=bne_iff_ne.2 hr
 clear h hr
 go_enter Tryz.func5,Tryz.ntmps5
 go_wp2_with fail
 obtain ⟨W,hW⟩:∃ z,z=((w.alloc (Obj.cells #[v 0,v 1,v 2,v 3,v 4,v 5] 30)).alloc (Obj.cells #[.int .i64 (c 0),.int .i64 (c 1),.int .i64 (c 2),.int .i64 (c 3),.int .i64 (c 4),.int .i64 (c 5),.slice tz tn tc,.int .i64 (c 7),.int .i64 (c 8)] 24)).alloc (Obj.cells #[.slice none 0 0,.slice none 0 0,.slice none 0 0] 35):=⟨_,rfl⟩
 obtain ⟨gC,hgC⟩:∃ z,z=w.heap.size+1:=⟨_,rfl⟩
 obtain ⟨gR,hgR⟩:∃ z,z=w.heap.size+1+1:=⟨_,rfl⟩
 rw [<-hW,<-hgR,<-hgC]
 have HK0:Hid (Ok w W):=by unfold Hid;rw [hW];exact (((Ok.refl w).alloc _).alloc _).alloc _
 have HRR0:Hid (W.heap[gR]?=some (.cells #[.slice none 0 0,.slice none 0 0,.slice none 0 0] 35 (0,0))):=by unfold Hid;rw [hW,hgR];exact (by repeat (first | (refine heap_at _ _ _ ?hx; case hx => (first | (simp; done) | (simp; omega))) | (refine heap_past _ _ _ ?hy ?_; case hy => (first | (simp; done) | (simp; omega))) | fail))
 have HRC0:Hid (W.heap[gC]?=some (.cells #[.int .i64 (c 0),.int .i64 (c 1),.int .i64 (c 2),.int .i64 (c 3),.int .i64 (c 4),.int .i64 (c 5),.slice tz tn tc,.int .i64 (c 7),.int .i64 (c 8)] 24 (0,0))):=by unfold Hid;rw [hW,hgC];exact (by repeat (first | (refine heap_at _ _ _ ?hx; case hx => (first | (simp; done) | (simp; omega))) | (refine heap_past _ _ _ ?hy ?_; case hy => (first | (simp; done) | (simp; omega))) | fail))
 have HG:Hid (w.heap.size<=gR/\w.heap.size<=gC/\gC≠gR):=by unfold Hid;omega
 clear hW hgR hgC
 refine (HL.out W HK0.out).mono ?_
 rintro e w1 ⟨rfl,hk1⟩
 have HK1:Hid (Ok w w1):=HK0.out.step hk1
 have HRR1:Hid _:=Ok.row' hk1 HRR0.out
 clear hk1 HL HRC0
 go_wp2_with (first | (refine za9 rfl 46 _ _ rfl w1.heap.size 46 #[.slice none 0 0,.slice none 0 0,.slice none 0 0,.slice none 0 0,.slice none 0 0,.slice none 0 0,.int .i64 0,.int .i64 0,.slice none 0 0] #[.slice none 0 0,.slice none 0 0,.slice none 0 0,.slice none 0 0,.slice none 0 0,.slice none 0 0,.int .i64 0,.int .i64 0,.slice none 0 0] (by rfl) (by rfl) (za4 _ _) infGr rfl yc9 ?_;obtain ⟨X,gL,hX,HKX,HKL⟩:=zo4 w1 #[.slice none 0 0,.slice none 0 0,.slice none 0 0,.slice none 0 0,.slice none 0 0,.slice none 0 0,.int .i64 0,.int .i64 0,.slice none 0 0];rw [hX.1,hX.2];clear hX) | (refine za9 rfl 35 _ _ rfl gR 35 #[.slice none 0 0,.slice none 0 0,.slice none 0 0] #[.slice none 0 0,.slice none 0 0,.slice none 0 0] (by rfl) (by rfl) (Ok.row' HKX.out HRR1.out) infPt rfl (by simp [Value.oneCell']) ?_) | fail)
 refine bodyPost_ret (zc1 rfl _ _ gR 35 #[.slice none 0 0,.slice none 0 0,.slice none 0 0] (0,0) _ rfl (setRow_heap _ _ _ _ _ _ (Ok.row' HKX.out HRR1.out)) Tryz.underlying35 rfl infPt) rfl ?_
 exact ⟨rfl,ze4 (HK1.out.step HKX.out) HG.out.1 _⟩
def PsIs (w:World) (N:Nat) (R:List Int×List Vx×List Lk) (e:Ending) (w':World):Prop:=∃ (vv lv mv:Value),e=.returned (.tuple #[.agg #[vv,lv,mv],.int .i64 0])/\VsOwn w' w.heap.size vv R.2.1/\w'.ownsRow w.heap.size 43 3 lv R.2.2.length (lkL R.2.2)/\w'.ownsRow w.heap.size 3 1 mv (mgL N R.1).length (ilL (mgL N R.1))/\Ok w w'
def gA (u:Nat->Value) (N x:Nat) (ev:Value):Nat->Value
 | 6=>.int .i64 (N:Nat)
 | 7=>.int .i64 (x:Nat)
 | 8=>ev
 | i=>u i
set_option maxRecDepth 100000 in
theorem yd1 (v:Nat->Value) (c:Nat->Int) (tz:Option Addr) (tn tc:Nat) (NN x:Nat) (es:List Ed) (R:List Int×List Vx×List Lk) (w:World) (h:∀ Y,Ok w Y->Calls Tryz.prog 10 #[.agg #[v 0,v 1,v 2,v 3,v 4,v 5],.agg #[.int .i64 (c 0),.int .i64 (c 1),.int .i64 (c 2),.int .i64 (c 3),.int .i64 (c 4),.int .i64 (c 5),.slice tz tn tc,.int .i64 (c 7),.int .i64 (c 8)]] Y fun e w'=>LwIs Y (some (NN,x,es)) e w') (hS:∀ Y (a:Nat->Value),Ok w Y->a 6=.int .i64 (NN:Nat)->(∀ i,i<6->∃ ao n c,a i=.slice ao n c)->(∃ x,a 7=.int .i64 x)->Y.ownsRow 0 51 6 (a 8) es.length (edL es)->Calls Tryz.prog 11 #[.agg #[a 0,a 1,a 2,a 3,a 4,a 5,a 6,a 7,a 8],.agg #[.int .i64 (c 0),.int .i64 (c 1),.int .i64 (c 2),.int .i64 (c 3),.int .i64 (c 4),.int .i64 (c 5),.slice tz tn tc,.int .i64 (c 7),.int .i64 (c 8)]] Y fun e w'=>SpIs Y NN R e w'):Calls Tryz.prog 5 #[.agg #[v 0,v 1,v 2,v 3,v 4,v 5],.agg #[.int .i64 (c 0),.int .i64 (c 1),.int .i64 (c 2),.int .i64 (c 3),.int .i64 (c 4),.int .i64 (c 5),.slice tz tn tc,.int .i64 (c 7),.int .i64 (c 8)]] w fun e w'=>PsIs w NN R e w':=by
 have HL:=hid h
 have HS:=hid hS
 clear h hS
 go_enter Tryz.func5,Tryz.ntmps5
 go_wp2_with fail
 obtain ⟨W,hW⟩:∃ z,z=((w.alloc (Obj.cells #[v 0,v 1,v 2,v 3,v 4,v 5] 30)).alloc (Obj.cells #[.int .i64 (c 0),.int .i64 (c 1),.int .i64 (c 2),.int .i64 (c 3),.int .i64 (c 4),.int .i64 (c 5),.slice tz tn tc,.int .i64 (c 7),.int .i64 (c 8)] 24)).alloc (Obj.cells #[.slice none 0 0,.slice none 0 0,.slice none 0 0] 35):=⟨_,rfl⟩
 obtain ⟨gC,hgC⟩:∃ z,z=w.heap.size+1:=⟨_,rfl⟩
 obtain ⟨gR,hgR⟩:∃ z,z=w.heap.size+1+1:=⟨_,rfl⟩
 rw [<-hW,<-hgR,<-hgC]
 have HK0:Hid (Ok w W):=by unfold Hid;rw [hW];exact (((Ok.refl w).alloc _).alloc _).alloc _
 have HRR0:Hid (W.heap[gR]?=some (.cells #[.slice none 0 0,.slice none 0 0,.slice none 0 0] 35 (0,0))):=by unfold Hid;rw [hW,hgR];exact (by repeat (first | (refine heap_at _ _ _ ?hx; case hx => (first | (simp; done) | (simp; omega))) | (refine heap_past _ _ _ ?hy ?_; case hy => (first | (simp; done) | (simp; omega))) | fail))
 have HRC0:Hid (W.heap[gC]?=some (.cells #[.int .i64 (c 0),.int .i64 (c 1),.int .i64 (c 2),.int .i64 (c 3),.int .i64 (c 4),.int .i64 (c 5),.slice tz tn tc,.int .i64 (c 7),.int .i64 (c 8)] 24 (0,0))):=by unfold Hid;rw [hW,hgC];exact (by repeat (first | (refine heap_at _ _ _ ?hx; case hx => (first | (simp; done) | (simp; omega))) | (refine heap_past _ _ _ ?hy ?_; case hy => (first | (simp; done) | (simp; omega))) | fail))
 have HG:Hid (w.heap.size<=gR/\w.heap.size<=gC/\gC≠gR):=by unfold Hid;omega
 clear hW hgR hgC
 refine (HL.out W HK0.out).mono ?_
 rintro e w1 hv
 unfold LwIs at hv
 obtain ⟨⟨u,eo,ec,rfl,hu,hes⟩,hk1⟩:=hv
 have HU:Hid (∀ i,i<6->∃ ao n c,u i=.slice ao n c):=hu
 have HES:Hid (w1.ownsRow 0 51 6 (.slice eo es.length ec) es.length (edL es)):=hes
 have HK1:Hid (Ok w w1):=HK0.out.step hk1
 have HRR1:Hid _:=Ok.row' hk1 HRR0.out
 have HRC1:Hid _:=Ok.row' hk1 HRC0.out
 have HON:Hid ((#[u 0,u 1,u 2,u 3,u 4,u 5,.int .i64 (NN:Nat),.int .i64 (x:Nat),.slice eo es.length ec]:Array Value).all (·.oneCell')=true):=by
  obtain ⟨g0,n0,k0,g1,n1,k1,g2,n2,k2,g3,n3,k3,g4,n4,k4,g5,n5,k5,e0,e1,e2,e3,e4,e5⟩:=slices6 hu
  unfold Hid
  rw [e0,e1,e2,e3,e4,e5]
  simp [Value.oneCell']
 clear hk1 HL hu hes
 go_wp2_with (first | (refine za9 rfl 46 _ _ rfl w1.heap.size 46 #[.slice none 0 0,.slice none 0 0,.slice none 0 0,.slice none 0 0,.slice none 0 0,.slice none 0 0,.int .i64 0,.int .i64 0,.slice none 0 0] #[u 0,u 1,u 2,u 3,u 4,u 5,.int .i64 (NN:Nat),.int .i64 (x:Nat),.slice eo es.length ec] (by rfl) (by rfl) (za4 _ _) infGr rfl HON.out ?_;obtain ⟨X,gL,hX,HKX,HKL⟩:=zo4 w1 #[u 0,u 1,u 2,u 3,u 4,u 5,.int .i64 (NN:Nat),.int .i64 (x:Nat),.slice eo es.length ec];rw [hX.1,hX.2];clear hX;obtain ⟨p0,p1,p2,p3,p4,p5,p6,p7,p8,lgp⟩:=row9 (Ok.row' HKX.out HRC1.out);obtain ⟨q0,q1,q2,q3,q4,q5,q6,q7,q8,lgq⟩:=row9 HKL.out.1) | fail)
 refine (HS.out X (gA u NN x (.slice eo es.length ec)) (HK1.out.step HKX.out) rfl (fun i hi=>by have h1:=HU.out i hi;match i,hi with | 0,_=>exact h1 | 1,_=>exact h1 | 2,_=>exact h1 | 3,_=>exact h1 | 4,_=>exact h1 | 5,_=>exact h1) ⟨_,rfl⟩ (za1 HES.out HKX.out)).mono ?_
 rintro e w2 hv
 unfold SpIs at hv
 obtain ⟨vv,lv,mv,rfl,h1,h2,h3,hk2⟩:=hv
 have HV:Hid (VsOwn w2 X.heap.size vv R.2.1/\w2.ownsRow X.heap.size 43 3 lv R.2.2.length (lkL R.2.2)/\w2.ownsRow X.heap.size 3 1 mv (mgL NN R.1).length (ilL (mgL NN R.1))):=⟨h1,h2,h3⟩
 have HK2:Hid (Ok X w2):=hk2
 have hone:(#[vv,lv,mv]:Array Value).all (·.oneCell')=true:=by
  obtain ⟨tl,z1,z2,z3⟩:=h1
  obtain ⟨_,_,rfl⟩:=za0 z2
  obtain ⟨_,_,rfl⟩:=za0 h2
  obtain ⟨_,_,rfl⟩:=za0 h3
  simp [Value.oneCell']
 have HO:Hid ((#[vv,lv,mv]:Array Value).all (·.oneCell')=true):=hone
 clear h1 h2 h3 hk2 hone p0 p1 p2 p3 p4 p5 p6 p7 p8 lgp q0 q1 q2 q3 q4 q5 q6 q7 q8 lgq
 go_wp2_with (first | (refine za9 rfl 35 _ _ rfl gR 35 #[.slice none 0 0,.slice none 0 0,.slice none 0 0] #[vv,lv,mv] (by rfl) (by rfl) (Ok.row' (HKX.out.step HK2.out) HRR1.out) infPt rfl HO.out ?_) | fail)
 refine bodyPost_ret (zc1 rfl _ _ gR 35 #[vv,lv,mv] (0,0) _ rfl (setRow_heap _ _ _ _ _ _ (Ok.row' (HKX.out.step HK2.out) HRR1.out)) Tryz.underlying35 rfl infPt) rfl ?_
 have hle:=(HK1.out.step HKX.out).le
 have hgx:gR<X.heap.size:=za2 (Ok.row' HKX.out HRR1.out)
 have hs:∀ b,X.heap.size<=b->(w2.setRow gR #[vv,lv,mv]).heap[b]?=w2.heap[b]?:=fun b hb=>setRow_other _ _ _ _ (by omega)
 exact ⟨vv,lv,mv,rfl,VsOwn.base (HV.out.1.far fun b hb _=>hs b hb) hle,za8 (zb4 HV.out.2.1 fun b hb=>hs b (HV.out.2.1.lt b hb).1) hle,za8 (zb4 HV.out.2.2 fun b hb=>hs b (HV.out.2.2.lt b hb).1) hle,ze4 ((HK1.out.step HKX.out).step HK2.out) HG.out.1 _⟩
end
section
open Go.RowKit Go.Maps
def SpG (w:World) (r:Int) (N:Nat) (R:List Int×List Vx×List Lk) (e:Ending) (w':World):Prop :=
 (r≠0/\e=.returned (.tuple #[.agg #[.slice none 0 0,.slice none 0 0,.slice none 0 0],.int .i64 r])/\Ok w w')\/(r=0/\PsIs w N R e w')
def lookT (ls:List Lk) (x y:Int):Option Int:=ls.foldl (fun o l=>if (l.1:Int)=x/\(l.2.2:Int)=y then some (l.2.1:Int) else o) none
theorem zt5 (ls:List Lk) (l:Lk) (x y:Int):lookT (ls++[l]) x y=if (l.1:Int)=x/\(l.2.2:Int)=y then some (l.2.1:Int) else lookT ls x y:=by
 unfold lookT;rw [List.foldl_append];rfl
theorem yd2 {α:Type} {p:List α->Prop} (h0:p []) (h1:∀ l x,p l->p (l++[x])) (l:List α):p l:=by
 have:∀ m:List α,p m.reverse:=fun m=>by
  induction m with
  | nil=>exact h0
  | cons a t ih=>rw [List.reverse_cons];exact h1 _ _ ih
 have h:=this l.reverse
 rwa [List.reverse_reverse] at h
theorem zx1 {x y:Int} {t:Int} (ls:List Lk):lookT ls x y=some t->∃ l∈ls,(l.1:Int)=x/\(l.2.2:Int)=y/\(l.2.1:Int)=t:=by
 refine yd2 (p:=fun ls=>lookT ls x y=some t->∃ l∈ls,(l.1:Int)=x/\(l.2.2:Int)=y/\(l.2.1:Int)=t) ?_ ?_ ls
 ·intro h;cases h
 ·intro ls l ih h
  rw [zt5] at h
  by_cases c:(l.1:Int)=x/\(l.2.2:Int)=y
  ·rw [if_pos c] at h
   injection h with h
   exact ⟨l,by simp,c.1,c.2,h⟩
  ·rw [if_neg c] at h
   obtain ⟨m,hm,r⟩:=ih h
   exact ⟨m,List.mem_append_left _ hm,r⟩
theorem zT0 {x y:Int} (ls:List Lk):lookT ls x y=none->∀ l∈ls,¬((l.1:Int)=x/\(l.2.2:Int)=y):=by
 refine yd2 (p:=fun ls=>lookT ls x y=none->∀ l∈ls,¬((l.1:Int)=x/\(l.2.2:Int)=y)) ?_ ?_ ls
 ·intro _ l hl;cases hl
 ·intro ls l ih h
  rw [zt5] at h
  by_cases c:(l.1:Int)=x/\(l.2.2:Int)=y
  ·rw [if_pos c] at h;cases h
  ·rw [if_neg c] at h
   intro m hm
   rcases List.mem_append.1 hm with hm | hm
   ·exact ih h m hm
   ·rw [List.mem_singleton.1 hm];exact c
theorem zT1 {p:Pl} {vs:List Vx} {ls:List Lk} (h:FI p vs.length vs ls) (v:Nat) (k:Int):lookT ls (v:Int) k=(goP ls v [k]).map fun u:Nat=>(u:Int):=by
 rw [zI3]
 cases hl:lookT ls (v:Int) k with
 | some t =>
  obtain ⟨l,hm,h1,h2,h3⟩:=zx1 ls hl
  have e1:l.1=v:=by omega
  have e2:k.toNat=l.2.2:=by omega
  rw [if_pos (by omega),e2,<-e1,h.next_some hm,<-h3]
  rfl
 | none =>
  have hn:=zT0 ls hl
  by_cases c:0<=k
  ·rw [if_pos c]
   have:nextV ls v k.toNat=none:=by
    unfold nextV
    rw [Option.map_eq_none_iff,List.find?_eq_none]
    intro l hm
    have:=hn l hm
    simp only [decide_eq_true_eq]
    omega
   rw [this];rfl
  ·rw [if_neg c];rfl
theorem yo7:Tryz.prog.keyType 66=true:=by kernel_rfl
theorem zp4:Tryz.prog.cellsOf 66=2/\Tryz.prog.cellsOf 3=1:=by
 refine ⟨?_,?_⟩<;>kernel_rfl
theorem zO9:Keyed Tryz.prog 66:=Keyed.of_law (deep_law_laid (by kernel_rfl) (m:=2) (by omega) (of_decide_eq_true (by kernel_rfl)) (by kernel_rfl) (by rw [Tryz.underlying66]))
theorem zP0 {a b:Int} (ha:(Lit.int .i64 a).wf=true) (hb:(Lit.int .i64 b).wf=true):∃ kl,keyOf Tryz.prog 66 (.agg #[.int .i64 a,.int .i64 b])=some kl:=by
 obtain ⟨m,hm⟩:∃ m,Tryz.prog.types.size=m+1:=⟨_,(by kernel_rfl:Tryz.prog.types.size=(Tryz.prog.types.size-1)+1)⟩
 have h3:Tryz.prog.keyLits (m+1+1) 66 [.int .i64 a,.int .i64 b]=some [.int .i64 a,.int .i64 b]:=by
  simp [Program.keyLits,Tryz.underlying66,Tryz.underlying3,zp4.1,zp4.2,ha,hb]
 refine ⟨.string (keyBytes [.int .i64 a,.int .i64 b]),?_⟩
 unfold keyOf
 rw [Tryz.underlying66]
 simp only [yo7,Value.formed,Tryz.underlying66,zp4.1,hm,Value.cells]
 simp [h3]
def TurnM (w:World) (b N:Nat) (ls:List Lk):Prop:=∃ f,MapF w 66 b N f/\∀ x y:Int,f (.agg #[.int .i64 x,.int .i64 y])=lookT ls x y
theorem TurnM.ok {w w':World} {b N:Nat} {ls:List Lk} (h:TurnM w b N ls) (hk:Ok w w'):TurnM w' b N ls:=by
 obtain ⟨f,h1,h2⟩:=h
 exact ⟨f,h1.ok hk,h2⟩
theorem TurnM.look {w:World} {b N:Nat} {ls:List Lk} (h:TurnM w b N ls) {x y:Int} (hx:(Lit.int .i64 x).wf=true) (hy:(Lit.int .i64 y).wf=true) :
  (Instr.lookup 62 (.map (some b)) (.agg #[.int .i64 x,.int .i64 y]) true).run Tryz.prog w=.ok (.tuple #[.int .i64 ((lookT ls x y).getD 0),.bool (lookT ls x y).isSome]) w:=by
 obtain ⟨f,h1,h2⟩:=h
 obtain ⟨kl,hk⟩:=zP0 hx hy
 rw [<-h2]
 exact h1.look_ok zO9 Tryz.underlying62 hk
theorem TurnM.put {w:World} {b N:Nat} {ls:List Lk} (h:TurnM w b N ls) (l:Lk) (hx:l.1<=1000000) (hy:l.2.2<=1000000) (ht:l.2.1<=1000000) (hN:N<=2000000) :
  ∃ w',(Instr.mapUpdate 62 (.map (some b)) (.agg #[.int .i64 (l.1:Nat),.int .i64 (l.2.2:Nat)]) (.int .i64 (l.2.1:Nat))).run Tryz.prog w=.ok () w'/\TurnM w' b (N+1) (ls++[l])/\w.grownBy w' (some b):=by
 obtain ⟨f,h1,h2⟩:=h
 obtain ⟨kl,hk⟩:=zP0 (a:=(l.1:Int)) (b:=(l.2.2:Int)) (gwf (by omega) (by omega)) (gwf (by omega) (by omega))
 classical
 obtain ⟨w',r1,r2,r3⟩:=h1.put (f':=fun u=>if u=.agg #[.int .i64 (l.1:Nat),.int .i64 (l.2.2:Nat)] then some (l.2.1:Int) else f u) zO9 Tryz.underlying62 hk (y:=(l.2.1:Int)) (by omega) (by omega) (by unfold maxLen;omega) (by simp) (fun u hu=>by simp [hu])
 refine ⟨w',r1,⟨_,r2,fun x y=>?_⟩,r3⟩
 rw [zt5,<-h2]
 by_cases c:(l.1:Int)=x/\(l.2.2:Int)=y
 ·rw [if_pos c,c.1,c.2];simp
 ·rw [if_neg c,if_neg]
  intro e
  injection e with e
  simp only [Array.mk.injEq,List.cons.injEq,Value.int.injEq,true_and,and_true] at e
  exact c ⟨e.1.symm,e.2.symm⟩
end
end Go.Proofs.YtenoopfeplalnaaGreatDoor
