import Derived.Test.YthoegkcpmgalbaaGreatDoorKPk0
set_option maxHeartbeats 8000000
set_option linter.all false
set_option maxRecDepth 100000
namespace Go.Proofs.YthoegkcpmgalbaaGreatDoor
open Go.RowKit
variable{b:Nat}{ns:List Nd}{v:Value}{w:World}
def yj9(v0 v1 v2 v3 v4 v5:Value)(ns:List Nd)(l:Ls)(w:World)(h:PL6 w v0 v1 v2 v3 v4 v5 ns l)(d:Bd6 ns l) :
  Calls Tryz.prog 93 #[.agg #[v0,v1,v2,v3,v4,v5]] w λe w'=>∃u:Nat->Value,e=.returned (.agg #[u 0,u 1,u 2,u 3,u 4,u 5])/\AG w' w.heap.size u ns l/\Ap u/\Ok w w':=by
 have HB:=hid d;have HP:=hid h;clear h d;obtain⟨w0,d⟩:=qq ((w.alloc (Obj.cells #[v0,v1,v2,v3,v4,v5] 30)).alloc (Obj.cells #[sZ,sZ,sZ,sZ,sZ,sZ] 30));have j5:Hi (Ok w w0):=by rw[d];exact((Ok.refl w).alloc _).alloc _
 have O:Hi (PC w0 w.heap.size v0 v1 v2 v3 v4 v5):=by rw[d];exact(PC.new w v0 v1 v2 v3 v4 v5).below ((Below.refl _ _).alloc (aK _) _)
 have j2:Hi (Six w0 (w.heap.size+1) (sZ) (sZ) (sZ) (sZ) (sZ) (sZ)):=by have:=Six.new (w.alloc (Obj.cells #[v0,v1,v2,v3,v4,v5] 30)) (sZ) (sZ) (sZ) (sZ) (sZ) (sZ);rw[show(w.alloc (Obj.cells #[v0,v1,v2,v3,v4,v5] 30)).heap.size=w.heap.size+1 from by simp]at this;unfold Hi;rw[d];exact this
 go_enter Tryz.func93,Tryz.ntmps93;go_wp2_with fail;rw[<-d];clear d;have i0:=hid j5.o;have J:=hid j2.o.lt;have f0:=hid (Ok.refl w0);obtain⟨cl,c0,c1,c2,c3,c4,c5⟩:=O.o
 go_region_held3 (λw'=>w'.cell? (aD w.heap.size 0)=some v0/\w'.cell? (aD w.heap.size 1)=some v1/\w'.cell? (aD w.heap.size 2)=some v2/\w'.cell? (aD w.heap.size 3)=some v3/\w'.cell? (aD w.heap.size 4)=some v4/\w'.cell? (aD w.heap.size 5)=some v5)
  (first|(with_reducible exact⟨d0,d1,d2,d3,d4,d5⟩) | (with_reducible exact⟨c0,c1,c2,c3,c4,c5⟩) | go_keep)
  (first
  |(go_at_call 126;refine(Calls.mono (zW7 _ _ _ _ (HP.o.nd.below (by repeat (first | exact i0.o | refine Ok.alloc ?_ _ | refine Below.drew ?_))) (oH HB.o.nd)) ?_);rintro e x0 ⟨u0,rfl,hu,I⟩;have i3:Hi (Ok w x0):=Ok.step (by repeat (first | exact i0.o | refine Ok.alloc ?_ _ | refine Below.drew ?_)) I;have f9:Hi (x0.ownsRow w.heap.size 53 6 u0 ns.length (ndL ns)):=za7 hu (Ok.le (by repeat (first | exact i0.o | refine Ok.alloc ?_ _ | refine Below.drew ?_)));have a2:Hi (PC x0 w.heap.size v0 v1 v2 v3 v4 v5):=O.o.below (Ok.step (w0:=w0) (by repeat (first | exact f0.o | refine Ok.alloc ?_ _ | refine Below.drew ?_)) I);have c9:Hi (Ok w0 x0):=Ok.step (by repeat (first | exact f0.o | refine Ok.alloc ?_ _ | refine Below.drew ?_)) I;obtain⟨a5,a4,rfl⟩:=za0 hu;obtain⟨dl,d0,d1,d2,d3,d4,d5⟩:=a2.o;have j6:Hi (Ok w0 x0):=Ok.step (by repeat (first | exact Ok.refl _ | refine Ok.alloc ?_ _ | refine Below.drew ?_)) I;have i9:Hi _:=(λ(g:Nat) (o:Obj) (h:_=some o)=>Ok.row' (g:=g) I h);clear hu I a2)
  |(go_at_call 127;refine(Calls.mono (zW8 _ _ _ _ (HP.o.sc.below (by repeat (first | exact i3.o | refine Ok.alloc ?_ _ | refine Below.drew ?_))) (oH HB.o.sc)) ?_);rintro e x1 ⟨u1,rfl,hu,I⟩;have i4:Hi (Ok w x1):=Ok.step (by repeat (first | exact i3.o | refine Ok.alloc ?_ _ | refine Below.drew ?_)) I;have f3:Hi (x1.ownsRow w.heap.size 9 1 u1 l.sc.length (l.sc.map λs=>.string s)):=za7 hu (Ok.le (by repeat (first | exact i3.o | refine Ok.alloc ?_ _ | refine Below.drew ?_)));have a2:Hi (PC x1 w.heap.size v0 v1 v2 v3 v4 v5):=O.o.below (Ok.step (w0:=w0) (by repeat (first | exact c9.o | refine Ok.alloc ?_ _ | refine Below.drew ?_)) I);have d7:Hi (Ok w0 x1):=Ok.step (by repeat (first | exact c9.o | refine Ok.alloc ?_ _ | refine Below.drew ?_)) I;obtain⟨a3,Z,rfl⟩:=za0 hu;obtain⟨dl,d0,d1,d2,d3,d4,d5⟩:=a2.o;have f6:Hi (Ok x0 x1):=Ok.step (by repeat (first | exact Ok.refl _ | refine Ok.alloc ?_ _ | refine Below.drew ?_)) I;have i7:Hi _:=(λ(g:Nat) (o:Obj) (h:_=some o)=>Ok.row' (g:=g) I h);clear hu I a2)
  |(go_at_call 128;refine(Calls.mono (zW9 _ _ _ _ (HP.o.ar.below (by repeat (first | exact i4.o | refine Ok.alloc ?_ _ | refine Below.drew ?_))) (oH HB.o.ar)) ?_);rintro e x2 ⟨u2,rfl,hu,I⟩;have i5:Hi (Ok w x2):=Ok.step (by repeat (first | exact i4.o | refine Ok.alloc ?_ _ | refine Below.drew ?_)) I;have f8:Hi (x2.ownsRow w.heap.size 55 2 u2 l.ar.length (l.ar.flatMap λa=>[.string a.1,nI a.2])):=za7 hu (Ok.le (by repeat (first | exact i4.o | refine Ok.alloc ?_ _ | refine Below.drew ?_)));have a2:Hi (PC x2 w.heap.size v0 v1 v2 v3 v4 v5):=O.o.below (Ok.step (w0:=w0) (by repeat (first | exact d7.o | refine Ok.alloc ?_ _ | refine Below.drew ?_)) I);have d8:Hi (Ok w0 x2):=Ok.step (by repeat (first | exact d7.o | refine Ok.alloc ?_ _ | refine Below.drew ?_)) I;obtain⟨a1,W,rfl⟩:=za0 hu;obtain⟨dl,d0,d1,d2,d3,d4,d5⟩:=a2.o;have b3:Hi (Ok x1 x2):=Ok.step (by repeat (first | exact Ok.refl _ | refine Ok.alloc ?_ _ | refine Below.drew ?_)) I;have i1:Hi _:=(λ(g:Nat) (o:Obj) (h:_=some o)=>Ok.row' (g:=g) I h);clear hu I a2)
  |(go_at_call_of 129 (v3);refine(Calls.mono (zq2 _ _ _ _ (HP.o.sy.below (by repeat (first | exact i5.o | refine Ok.alloc ?_ _ | refine Below.drew ?_))) (oH HB.o.sy)) ?_);rintro e x3 ⟨u3,rfl,hu,I⟩;have i2:Hi (Ok w x3):=Ok.step (by repeat (first | exact i5.o | refine Ok.alloc ?_ _ | refine Below.drew ?_)) I;have a9:Hi (x3.ownsRow w.heap.size 3 1 u3 l.sy.length (l.sy.map λs=>nI s)):=za7 hu (Ok.le (by repeat (first | exact i5.o | refine Ok.alloc ?_ _ | refine Below.drew ?_)));have a2:Hi (PC x3 w.heap.size v0 v1 v2 v3 v4 v5):=O.o.below (Ok.step (w0:=w0) (by repeat (first | exact d8.o | refine Ok.alloc ?_ _ | refine Below.drew ?_)) I);have d9:Hi (Ok w0 x3):=Ok.step (by repeat (first | exact d8.o | refine Ok.alloc ?_ _ | refine Below.drew ?_)) I;obtain⟨a7,b1,rfl⟩:=za0 hu;obtain⟨dl,d0,d1,d2,d3,d4,d5⟩:=a2.o;have K:Hi (Ok x2 x3):=Ok.step (by repeat (first | exact Ok.refl _ | refine Ok.alloc ?_ _ | refine Below.drew ?_)) I;have h5:Hi _:=(λ(g:Nat) (o:Obj) (h:_=some o)=>Ok.row' (g:=g) I h);clear hu I a2)
  |(go_at_call_of 129 (v4);refine(Calls.mono (zq2 _ _ _ _ (HP.o.si.below (by repeat (first | exact i2.o | refine Ok.alloc ?_ _ | refine Below.drew ?_))) (oH HB.o.si)) ?_);rintro e x4 ⟨u4,rfl,hu,I⟩;have f4:Hi (∀b,u4.ownBlock=some b->x3.heap.size<=b):=(λb h=>aH (Ok.le (w0:=x3) (by repeat (first | exact Ok.refl _ | refine Ok.alloc ?_ _ | refine Below.drew ?_))) (hu.lt b h).1);have h8:Hi (Ok w x4):=Ok.step (by repeat (first | exact i2.o | refine Ok.alloc ?_ _ | refine Below.drew ?_)) I;have b2:Hi (x4.ownsRow w.heap.size 3 1 u4 l.si.length (l.si.map λs=>nI s)):=za7 hu (Ok.le (by repeat (first | exact i2.o | refine Ok.alloc ?_ _ | refine Below.drew ?_)));have a2:Hi (PC x4 w.heap.size v0 v1 v2 v3 v4 v5):=O.o.below (Ok.step (w0:=w0) (by repeat (first | exact d9.o | refine Ok.alloc ?_ _ | refine Below.drew ?_)) I);have d6:Hi (Ok w0 x4):=Ok.step (by repeat (first | exact d9.o | refine Ok.alloc ?_ _ | refine Below.drew ?_)) I;obtain⟨b0,a8,rfl⟩:=za0 hu;obtain⟨dl,d0,d1,d2,d3,d4,d5⟩:=a2.o;have G:Hi (Ok x3 x4):=Ok.step (by repeat (first | exact Ok.refl _ | refine Ok.alloc ?_ _ | refine Below.drew ?_)) I;have g8:Hi _:=(λ(g:Nat) (o:Obj) (h:_=some o)=>Ok.row' (g:=g) I h);clear hu I a2)
  |(go_at_call_of 129 (v5);refine(Calls.mono (zq2 _ _ _ _ (HP.o.so.below (by repeat (first | exact h8.o | refine Ok.alloc ?_ _ | refine Below.drew ?_))) (oH HB.o.so)) ?_);rintro e x5 ⟨u5,rfl,hu,I⟩;have f7:Hi (∀b,u5.ownBlock=some b->x4.heap.size<=b):=(λb h=>aH (Ok.le (w0:=x4) (by repeat (first | exact Ok.refl _ | refine Ok.alloc ?_ _ | refine Below.drew ?_))) (hu.lt b h).1);have f1:Hi (Ok w x5):=Ok.step (by repeat (first | exact h8.o | refine Ok.alloc ?_ _ | refine Below.drew ?_)) I;have f5:Hi (x5.ownsRow w.heap.size 3 1 u5 l.so.length (l.so.map λs=>nI s)):=za7 hu (Ok.le (by repeat (first | exact h8.o | refine Ok.alloc ?_ _ | refine Below.drew ?_)));have a2:Hi (PC x5 w.heap.size v0 v1 v2 v3 v4 v5):=O.o.below (Ok.step (w0:=w0) (by repeat (first | exact d6.o | refine Ok.alloc ?_ _ | refine Below.drew ?_)) I);have h7:Hi (Ok w0 x5):=Ok.step (by repeat (first | exact d6.o | refine Ok.alloc ?_ _ | refine Below.drew ?_)) I;obtain⟨b4,b5,rfl⟩:=za0 hu;obtain⟨dl,d0,d1,d2,d3,d4,d5⟩:=a2.o;have D:Hi (Ok x4 x5):=Ok.step (by repeat (first | exact Ok.refl _ | refine Ok.alloc ?_ _ | refine Below.drew ?_)) I;have g7:Hi _:=(λ(g:Nat) (o:Obj) (h:_=some o)=>Ok.row' (g:=g) I h);(first|(have d:Hi (Six x5 w0.heap.size (sZ) (sZ) (sZ) (sZ) (sZ) (sZ)):=⟨(g7.o _ _ (g8.o _ _ (h5.o _ _ (i1.o _ _ (i7.o _ _ (i9.o _ _ (by with_reducible exact zO4 _ _)))))))⟩;have c8:¬w.heap.size=w0.heap.size:=(by have X:=O.o.lt;have R:=f0.o.le;omega);have c6:¬w0.heap.size=w.heap.size:=(by have X:=O.o.lt;have R:=f0.o.le;omega);have wf:=d.o.warm;obtain⟨sl,g0,g1,g2,g3,g4,g5⟩:=d.o.pc) | (have d:Hi (Six x5 x0.heap.size (sZ) (sZ) (sZ) (sZ) (sZ) (sZ)):=⟨(g7.o _ _ (g8.o _ _ (h5.o _ _ (i1.o _ _ (i7.o _ _ (by with_reducible exact za3 _ _))))))⟩;have c8:¬w.heap.size=x0.heap.size:=(by have X:=O.o.lt;have R:=c9.o.le;omega);have c6:¬x0.heap.size=w.heap.size:=(by have X:=O.o.lt;have R:=c9.o.le;omega);have wf:=d.o.warm;obtain⟨sl,g0,g1,g2,g3,g4,g5⟩:=d.o.pc) | (have d:Hi (Six x5 x1.heap.size (sZ) (sZ) (sZ) (sZ) (sZ) (sZ)):=⟨(g7.o _ _ (g8.o _ _ (h5.o _ _ (i1.o _ _ (by with_reducible exact za3 _ _)))))⟩;have c8:¬w.heap.size=x1.heap.size:=(by have X:=O.o.lt;have R:=d7.o.le;omega);have c6:¬x1.heap.size=w.heap.size:=(by have X:=O.o.lt;have R:=d7.o.le;omega);have wf:=d.o.warm;obtain⟨sl,g0,g1,g2,g3,g4,g5⟩:=d.o.pc) | (have d:Hi (Six x5 x2.heap.size (sZ) (sZ) (sZ) (sZ) (sZ) (sZ)):=⟨(g7.o _ _ (g8.o _ _ (h5.o _ _ (by with_reducible exact za3 _ _))))⟩;have c8:¬w.heap.size=x2.heap.size:=(by have X:=O.o.lt;have R:=d8.o.le;omega);have c6:¬x2.heap.size=w.heap.size:=(by have X:=O.o.lt;have R:=d8.o.le;omega);have wf:=d.o.warm;obtain⟨sl,g0,g1,g2,g3,g4,g5⟩:=d.o.pc) | (have d:Hi (Six x5 x3.heap.size (sZ) (sZ) (sZ) (sZ) (sZ) (sZ)):=⟨(g7.o _ _ (g8.o _ _ (by with_reducible exact za3 _ _)))⟩;have c8:¬w.heap.size=x3.heap.size:=(by have X:=O.o.lt;have R:=d9.o.le;omega);have c6:¬x3.heap.size=w.heap.size:=(by have X:=O.o.lt;have R:=d9.o.le;omega);have wf:=d.o.warm;obtain⟨sl,g0,g1,g2,g3,g4,g5⟩:=d.o.pc) | (have d:Hi (Six x5 x4.heap.size (sZ) (sZ) (sZ) (sZ) (sZ) (sZ)):=⟨(g7.o _ _ (by with_reducible exact za3 _ _))⟩;have c8:¬w.heap.size=x4.heap.size:=(by have X:=O.o.lt;have R:=d6.o.le;omega);have c6:¬x4.heap.size=w.heap.size:=(by have X:=O.o.lt;have R:=d6.o.le;omega);have wf:=d.o.warm;obtain⟨sl,g0,g1,g2,g3,g4,g5⟩:=d.o.pc) | skip);clear hu I a2)
  | fail)
 all_goals have f2:=hid (j2.o.below h7.o)
 all_goals (first
  |(obtain⟨Y,hY⟩:=qq (((((((x5.setCell (aD w0.heap.size 0) (.slice a5 ns.length a4)).setCell (aD w0.heap.size 1) (.slice a3 l.sc.length Z)).setCell (aD w0.heap.size 2) (.slice a1 l.ar.length W)).setCell (aD w0.heap.size 3) (.slice a7 l.sy.length b1)).setCell (aD w0.heap.size 4) (.slice b0 l.si.length a8)).setCell (aD w0.heap.size 5) (.slice b4 l.so.length b5)));rw[<-hY];have HY:Hi (OwF w Y w0.heap.size (.slice a5 ns.length a4) (.slice a3 l.sc.length Z) (.slice a1 l.ar.length W) (.slice a7 l.sy.length b1) (.slice b0 l.si.length a8) (.slice b4 l.so.length b5) ns l):=(by unfold Hi;rw[hY];exact⟨⟨zc9 d.o.heap _ _ _ _ _ _⟩,zn4 f2.o (by have X:=J.o;have R:=f0.o.le;omega) _ _ _ _ _ _,(by have X:=J.o;have R:=f0.o.le;omega),(by have X:=J.o;have R:=f0.o.le;omega),zc8 f1.o (by have X:=J.o;have R:=f0.o.le;omega) _ _ _ _ _ _,AG.of6 (zb5 (za1 (za1 (za1 (za1 (za1 f9.o f6.o) b3.o) K.o) G.o) D.o) (by decide) d.o _ _ _ _ _ _) (zb5 (za1 (za1 (za1 (za1 f3.o b3.o) K.o) G.o) D.o) (by decide) d.o _ _ _ _ _ _) (zb5 (za1 (za1 (za1 f8.o K.o) G.o) D.o) (by decide) d.o _ _ _ _ _ _) (zb5 (za1 (za1 a9.o G.o) D.o) (by decide) d.o _ _ _ _ _ _) (zb5 (za1 b2.o D.o) (by decide) d.o _ _ _ _ _ _) (zb5 f5.o (by decide) d.o _ _ _ _ _ _),wg8 a9.o b2.o f4.o f7.o G.o.le⟩);obtain⟨gq,L⟩:=qq (w0.heap.size);rw[<-L]at HY ⊢)
  |(obtain⟨Y,hY⟩:=qq (((((((x5.setCell (aD x0.heap.size 0) (.slice a5 ns.length a4)).setCell (aD x0.heap.size 1) (.slice a3 l.sc.length Z)).setCell (aD x0.heap.size 2) (.slice a1 l.ar.length W)).setCell (aD x0.heap.size 3) (.slice a7 l.sy.length b1)).setCell (aD x0.heap.size 4) (.slice b0 l.si.length a8)).setCell (aD x0.heap.size 5) (.slice b4 l.so.length b5)));rw[<-hY];have HY:Hi (OwF w Y x0.heap.size (.slice a5 ns.length a4) (.slice a3 l.sc.length Z) (.slice a1 l.ar.length W) (.slice a7 l.sy.length b1) (.slice b0 l.si.length a8) (.slice b4 l.so.length b5) ns l):=(by unfold Hi;rw[hY];exact⟨⟨zc9 d.o.heap _ _ _ _ _ _⟩,zn4 f2.o (by have X:=J.o;have R:=c9.o.le;omega) _ _ _ _ _ _,(by have X:=J.o;have R:=c9.o.le;omega),(by have X:=J.o;have R:=c9.o.le;omega),zc8 f1.o (by have X:=J.o;have R:=c9.o.le;omega) _ _ _ _ _ _,AG.of6 (zb5 (za1 (za1 (za1 (za1 (za1 f9.o f6.o) b3.o) K.o) G.o) D.o) (by decide) d.o _ _ _ _ _ _) (zb5 (za1 (za1 (za1 (za1 f3.o b3.o) K.o) G.o) D.o) (by decide) d.o _ _ _ _ _ _) (zb5 (za1 (za1 (za1 f8.o K.o) G.o) D.o) (by decide) d.o _ _ _ _ _ _) (zb5 (za1 (za1 a9.o G.o) D.o) (by decide) d.o _ _ _ _ _ _) (zb5 (za1 b2.o D.o) (by decide) d.o _ _ _ _ _ _) (zb5 f5.o (by decide) d.o _ _ _ _ _ _),wg8 a9.o b2.o f4.o f7.o G.o.le⟩);obtain⟨gq,L⟩:=qq (x0.heap.size);rw[<-L]at HY ⊢)
  |(obtain⟨Y,hY⟩:=qq (((((((x5.setCell (aD x1.heap.size 0) (.slice a5 ns.length a4)).setCell (aD x1.heap.size 1) (.slice a3 l.sc.length Z)).setCell (aD x1.heap.size 2) (.slice a1 l.ar.length W)).setCell (aD x1.heap.size 3) (.slice a7 l.sy.length b1)).setCell (aD x1.heap.size 4) (.slice b0 l.si.length a8)).setCell (aD x1.heap.size 5) (.slice b4 l.so.length b5)));rw[<-hY];have HY:Hi (OwF w Y x1.heap.size (.slice a5 ns.length a4) (.slice a3 l.sc.length Z) (.slice a1 l.ar.length W) (.slice a7 l.sy.length b1) (.slice b0 l.si.length a8) (.slice b4 l.so.length b5) ns l):=(by unfold Hi;rw[hY];exact⟨⟨zc9 d.o.heap _ _ _ _ _ _⟩,zn4 f2.o (by have X:=J.o;have R:=d7.o.le;omega) _ _ _ _ _ _,(by have X:=J.o;have R:=d7.o.le;omega),(by have X:=J.o;have R:=d7.o.le;omega),zc8 f1.o (by have X:=J.o;have R:=d7.o.le;omega) _ _ _ _ _ _,AG.of6 (zb5 (za1 (za1 (za1 (za1 (za1 f9.o f6.o) b3.o) K.o) G.o) D.o) (by decide) d.o _ _ _ _ _ _) (zb5 (za1 (za1 (za1 (za1 f3.o b3.o) K.o) G.o) D.o) (by decide) d.o _ _ _ _ _ _) (zb5 (za1 (za1 (za1 f8.o K.o) G.o) D.o) (by decide) d.o _ _ _ _ _ _) (zb5 (za1 (za1 a9.o G.o) D.o) (by decide) d.o _ _ _ _ _ _) (zb5 (za1 b2.o D.o) (by decide) d.o _ _ _ _ _ _) (zb5 f5.o (by decide) d.o _ _ _ _ _ _),wg8 a9.o b2.o f4.o f7.o G.o.le⟩);obtain⟨gq,L⟩:=qq (x1.heap.size);rw[<-L]at HY ⊢)
  |(obtain⟨Y,hY⟩:=qq (((((((x5.setCell (aD x2.heap.size 0) (.slice a5 ns.length a4)).setCell (aD x2.heap.size 1) (.slice a3 l.sc.length Z)).setCell (aD x2.heap.size 2) (.slice a1 l.ar.length W)).setCell (aD x2.heap.size 3) (.slice a7 l.sy.length b1)).setCell (aD x2.heap.size 4) (.slice b0 l.si.length a8)).setCell (aD x2.heap.size 5) (.slice b4 l.so.length b5)));rw[<-hY];have HY:Hi (OwF w Y x2.heap.size (.slice a5 ns.length a4) (.slice a3 l.sc.length Z) (.slice a1 l.ar.length W) (.slice a7 l.sy.length b1) (.slice b0 l.si.length a8) (.slice b4 l.so.length b5) ns l):=(by unfold Hi;rw[hY];exact⟨⟨zc9 d.o.heap _ _ _ _ _ _⟩,zn4 f2.o (by have X:=J.o;have R:=d8.o.le;omega) _ _ _ _ _ _,(by have X:=J.o;have R:=d8.o.le;omega),(by have X:=J.o;have R:=d8.o.le;omega),zc8 f1.o (by have X:=J.o;have R:=d8.o.le;omega) _ _ _ _ _ _,AG.of6 (zb5 (za1 (za1 (za1 (za1 (za1 f9.o f6.o) b3.o) K.o) G.o) D.o) (by decide) d.o _ _ _ _ _ _) (zb5 (za1 (za1 (za1 (za1 f3.o b3.o) K.o) G.o) D.o) (by decide) d.o _ _ _ _ _ _) (zb5 (za1 (za1 (za1 f8.o K.o) G.o) D.o) (by decide) d.o _ _ _ _ _ _) (zb5 (za1 (za1 a9.o G.o) D.o) (by decide) d.o _ _ _ _ _ _) (zb5 (za1 b2.o D.o) (by decide) d.o _ _ _ _ _ _) (zb5 f5.o (by decide) d.o _ _ _ _ _ _),wg8 a9.o b2.o f4.o f7.o G.o.le⟩);obtain⟨gq,L⟩:=qq (x2.heap.size);rw[<-L]at HY ⊢)
  |(obtain⟨Y,hY⟩:=qq (((((((x5.setCell (aD x3.heap.size 0) (.slice a5 ns.length a4)).setCell (aD x3.heap.size 1) (.slice a3 l.sc.length Z)).setCell (aD x3.heap.size 2) (.slice a1 l.ar.length W)).setCell (aD x3.heap.size 3) (.slice a7 l.sy.length b1)).setCell (aD x3.heap.size 4) (.slice b0 l.si.length a8)).setCell (aD x3.heap.size 5) (.slice b4 l.so.length b5)));rw[<-hY];have HY:Hi (OwF w Y x3.heap.size (.slice a5 ns.length a4) (.slice a3 l.sc.length Z) (.slice a1 l.ar.length W) (.slice a7 l.sy.length b1) (.slice b0 l.si.length a8) (.slice b4 l.so.length b5) ns l):=(by unfold Hi;rw[hY];exact⟨⟨zc9 d.o.heap _ _ _ _ _ _⟩,zn4 f2.o (by have X:=J.o;have R:=d9.o.le;omega) _ _ _ _ _ _,(by have X:=J.o;have R:=d9.o.le;omega),(by have X:=J.o;have R:=d9.o.le;omega),zc8 f1.o (by have X:=J.o;have R:=d9.o.le;omega) _ _ _ _ _ _,AG.of6 (zb5 (za1 (za1 (za1 (za1 (za1 f9.o f6.o) b3.o) K.o) G.o) D.o) (by decide) d.o _ _ _ _ _ _) (zb5 (za1 (za1 (za1 (za1 f3.o b3.o) K.o) G.o) D.o) (by decide) d.o _ _ _ _ _ _) (zb5 (za1 (za1 (za1 f8.o K.o) G.o) D.o) (by decide) d.o _ _ _ _ _ _) (zb5 (za1 (za1 a9.o G.o) D.o) (by decide) d.o _ _ _ _ _ _) (zb5 (za1 b2.o D.o) (by decide) d.o _ _ _ _ _ _) (zb5 f5.o (by decide) d.o _ _ _ _ _ _),wg8 a9.o b2.o f4.o f7.o G.o.le⟩);obtain⟨gq,L⟩:=qq (x3.heap.size);rw[<-L]at HY ⊢)
  |(obtain⟨Y,hY⟩:=qq (((((((x5.setCell (aD x4.heap.size 0) (.slice a5 ns.length a4)).setCell (aD x4.heap.size 1) (.slice a3 l.sc.length Z)).setCell (aD x4.heap.size 2) (.slice a1 l.ar.length W)).setCell (aD x4.heap.size 3) (.slice a7 l.sy.length b1)).setCell (aD x4.heap.size 4) (.slice b0 l.si.length a8)).setCell (aD x4.heap.size 5) (.slice b4 l.so.length b5)));rw[<-hY];have HY:Hi (OwF w Y x4.heap.size (.slice a5 ns.length a4) (.slice a3 l.sc.length Z) (.slice a1 l.ar.length W) (.slice a7 l.sy.length b1) (.slice b0 l.si.length a8) (.slice b4 l.so.length b5) ns l):=(by unfold Hi;rw[hY];exact⟨⟨zc9 d.o.heap _ _ _ _ _ _⟩,zn4 f2.o (by have X:=J.o;have R:=d6.o.le;omega) _ _ _ _ _ _,(by have X:=J.o;have R:=d6.o.le;omega),(by have X:=J.o;have R:=d6.o.le;omega),zc8 f1.o (by have X:=J.o;have R:=d6.o.le;omega) _ _ _ _ _ _,AG.of6 (zb5 (za1 (za1 (za1 (za1 (za1 f9.o f6.o) b3.o) K.o) G.o) D.o) (by decide) d.o _ _ _ _ _ _) (zb5 (za1 (za1 (za1 (za1 f3.o b3.o) K.o) G.o) D.o) (by decide) d.o _ _ _ _ _ _) (zb5 (za1 (za1 (za1 f8.o K.o) G.o) D.o) (by decide) d.o _ _ _ _ _ _) (zb5 (za1 (za1 a9.o G.o) D.o) (by decide) d.o _ _ _ _ _ _) (zb5 (za1 b2.o D.o) (by decide) d.o _ _ _ _ _ _) (zb5 f5.o (by decide) d.o _ _ _ _ _ _),wg8 a9.o b2.o f4.o f7.o G.o.le⟩);obtain⟨gq,L⟩:=qq (x4.heap.size);rw[<-L]at HY ⊢)
  |(obtain⟨Y,hY⟩:=qq (x5.alloc (Obj.cells #[.slice a5 ns.length a4,.slice a3 l.sc.length Z,.slice a1 l.ar.length W,.slice a7 l.sy.length b1,.slice b0 l.si.length a8,.slice b4 l.so.length b5] 30));rw[<-hY];have HY:Hi (OwF w Y x5.heap.size (.slice a5 ns.length a4) (.slice a3 l.sc.length Z) (.slice a1 l.ar.length W) (.slice a7 l.sy.length b1) (.slice b0 l.si.length a8) (.slice b4 l.so.length b5) ns l):=(by unfold Hi;rw[hY];exact⟨Six.new _ _ _ _ _ _ _,f2.o.below ((Ok.refl _).alloc _),(by have X:=J.o;have R:=h7.o.le;omega),(by have X:=J.o;have R:=h7.o.le;omega),f1.o.alloc _,AG.of6 (World.ownsRow.alloc (za1 (za1 (za1 (za1 (za1 f9.o f6.o) b3.o) K.o) G.o) D.o) _) (World.ownsRow.alloc (za1 (za1 (za1 (za1 f3.o b3.o) K.o) G.o) D.o) _) (World.ownsRow.alloc (za1 (za1 (za1 f8.o K.o) G.o) D.o) _) (World.ownsRow.alloc (za1 (za1 a9.o G.o) D.o) _) (World.ownsRow.alloc (za1 b2.o D.o) _) (World.ownsRow.alloc f5.o _),wg8 a9.o b2.o f4.o f7.o G.o.le⟩);obtain⟨gq,L⟩:=qq (x5.heap.size);rw[<-L]at HY ⊢))
 all_goals
  clear hY L f2;(try clear d wf sl g0 g1 g2 g3 g4 g5 c8 c6);clear f4 f7 i0 i3 i4 i5 i2 h8 f1 f0 c9 d7 d8 d9 d6 h7 j6 f6 b3 K G D i9 i7 i1 h5 g8 g7 f9 f3 f8 a9 b2 f5 d0 d1 d2 d3 d4 d5 dl;obtain⟨z1,c0,c1,c2,c3,c4,c5⟩:=HY.o.six.pc;go_wp2_with fail;clear z1 c0 c1 c2 c3 c4 c5;go_loopw [32] (λt wr=>∃k:Nat,k<=ns.length/\t=nI k/\Hi (Ok Y wr)) (λt _=>ns.length-(intOf t).toNat)
  case atStart=>exact⟨0,zL_ _,rfl,Ok.refl _⟩
  obtain⟨k,I,rfl,HV⟩:=hrel;have b6:Hi _:=HY.o.six.below HV.o;obtain⟨z1,c0,c1,c2,c3,c4,c5⟩:=b6.o.pc;by_cases a6:k<ns.length
  ·have b9:(k:Int)<(ns.length:Int):=za5 a6
   have j1:IntKind.i64.wrap ((k:Int)+1)=((k+1:Nat):Int):=zd3 oM (oH HB.o.nd);have c7:=hid (za1 (AG.nd0 HY.o.pr) HV.o);obtain⟨n,hn⟩:∃n,ns[k]?=some n:=⟨ns[k],gG_ a6⟩
   obtain⟨g,hg⟩:∃g,a5=some ⟨g,0,none⟩:=by
    obtain⟨g,c,e,_⟩:=c7.o.form oM
    injection e with e1
    exact⟨g,e1⟩
   subst hg;obtain⟨q0,q1,q2,q3,q4,q5⟩:=zg3 hn;have y0:=c7.o.cells (g:=g) rfl _ _ q0;have y1:=c7.o.cells (g:=g) rfl _ _ q1;have y2:=c7.o.cells (g:=g) rfl _ _ q2;have y3:=c7.o.cells (g:=g) rfl _ _ q3;have y4:=c7.o.cells (g:=g) rfl _ _ q4;have y5:=c7.o.cells (g:=g) rfl _ _ q5;rw[zb7,aL]at y0 y1 y2 y3 y4 y5;have h3:=(c7.o.lt g rfl).2;have L:¬g=gq:=zN1 c7.o dC b6.o rfl;have i6:¬gq=g:=λe=>L e.symm;have g9:=hid (HB.o.nm n (mG_ hn));clear q0 q1 q2 q3 q4 q5 hn;go_wp2_with fail;obtain⟨V,hV⟩:=qq (wr.alloc (Obj.cells #[nI n.depth,nI n.kind,.string n.name,nI n.num,nI n.op,nI n.pos] 53));rw[<-hV];obtain⟨rn,b8⟩:=qq (wr.heap.size);rw[<-b8];have g6:Hi (Ok wr V):=by rw[hV];exact(Ok.refl wr).alloc _
   have e1:V.cell? (aD rn 2)=some (.string n.name):=by rw[hV,b8];exact(zV6 (za3 _ _)).2.2.1
   have e0:=(b6.o.below g6.o).pc.c0;have i8:rn<V.heap.size:=by rw[hV,b8];simp
   have j4:¬g=rn:=oM;have j0:¬rn=g:=oM;have k0:V.drew.cell? (aD gq 0)=some (.slice (sA g 0) ns.length a4):=e0;have k1:V.drew.cell? (aD rn 2)=some (.string n.name):=e1;have k2:Hi (rn=wr.heap.size):=b8;clear hV b8 z1 c0 c1 c2 c3 c4 c5 y0 y1 y3 y4 y5
   go_region_held3 (λw'=>w'.cell? (aD gq 0)=some (.slice (sA g 0) ns.length a4)/\w'.cell? (aD rn 2)=some (.string n.name))
    (first|(with_reducible exact⟨d0,d1⟩) | (with_reducible exact⟨k0,k1⟩) | go_keep)
    (first
    |(go_at_call 130;refine(Calls.mono (zq3 _ _ g9.o) ?_);rintro e x ⟨rfl,I⟩;have HX:Hi (Ok V x):=Ok.step (by repeat (first | exact Ok.refl _ | refine Below.drew ?_)) I;have d0:=HX.o.cell (p:=⟨gq,0,none⟩) (b6.o.below g6.o).lt e0;have d1:=HX.o.cell (p:=⟨rn,2,none⟩) i8 e1;have b7:=hid (g6.o.step HX.o);have dy:=b7.o.cell (p:=⟨g,k*6+2,none⟩) h3 y2;have df:=(za1 c7.o b7.o).frozenAt (k*6+2);have h4:=hid dy;clear I)
    | fail)
   go_wp2_with fail;exact⟨⟨k+1,a6,by go_num,(by rw[zm5 h4.o];exact HV.o.step b7.o)⟩,by simp[intOf];omega⟩
  have b9:¬(k:Int)<(ns.length:Int):=zb2 a6;go_wp2_with fail;clear z1 c0 c1 c2 c3 c4 c5 a6 b9 I b6;obtain⟨Y2,j9⟩:=qq (wr);subst j9;go_loopw [49] (λt wr=>∃k:Nat,k<=l.sc.length/\t=nI k/\Hi (Ok Y wr)) (λt _=>l.sc.length-(intOf t).toNat)
  case atStart=>exact⟨0,zL_ _,rfl,HV⟩
  clear HV;obtain⟨k,I,rfl,HV⟩:=hrel;have b6:Hi _:=HY.o.six.below HV.o;obtain⟨z1,c0,c1,c2,c3,c4,c5⟩:=b6.o.pc;by_cases a6:k<l.sc.length
  ·have b9:(k:Int)<(l.sc.length:Int):=za5 a6
   have j1:IntKind.i64.wrap ((k:Int)+1)=((k+1:Nat):Int):=zd3 oM (oH HB.o.sc);have h6:Hi (wr.ownsRow w.heap.size 9 1 (.slice a3 l.sc.length Z) l.sc.length (l.sc.map λs=>.string s)):=za1 (HY.o.pr 1 dC) HV.o;obtain⟨n,hn⟩:∃n,l.sc[k]?=some n:=⟨l.sc[k],gG_ a6⟩
   obtain⟨g,hg⟩:∃g,a3=some ⟨g,0,none⟩:=by
    obtain⟨g,c,e,_⟩:=h6.o.form oM
    injection e with e1
    exact⟨g,e1⟩
   subst hg;have y2:=h6.o.cells (g:=g) rfl k (.string n) (by rw[aX,hn];rfl);rw[zb7,aL]at y2;have h3:=(h6.o.lt g rfl).2;have L:¬g=gq:=zN1 h6.o dC b6.o rfl;have i6:¬gq=g:=λe=>L e.symm;have g9:=hid (HB.o.sn n (mG_ hn));clear hn;have k0:wr.drew.cell? (aD gq 1)=some (.slice (sA g 0) l.sc.length Z):=c1;have j8:=hid z1;go_wp2_with fail
   go_region_held3 (λw'=>w'.cell? (aD gq 1)=some (.slice (sA g 0) l.sc.length Z))
    (first|(with_reducible exact d0) | (with_reducible exact k0) | go_keep)
    (first
    |(go_at_call 130;refine(Calls.mono (zq3 _ _ g9.o) ?_);rintro e x ⟨rfl,I⟩;have b7:Hi (Ok wr x):=Ok.step (by repeat (first | exact Ok.refl _ | refine Below.drew ?_)) I;have d0:=b7.o.cell (p:=⟨gq,1,none⟩) j8.o c1;have dy:=b7.o.cell (p:=⟨g,k,none⟩) h3 y2;have df:=(za1 h6.o b7.o).frozenAt k;have h4:=hid dy;clear I)
    | fail)
   go_wp2_with fail;exact⟨⟨k+1,a6,by go_num,(by rw[zm5 h4.o];exact HV.o.step b7.o)⟩,by simp[intOf];omega⟩
  have b9:¬(k:Int)<(l.sc.length:Int):=zb2 a6;go_wp2_with fail;clear z1 c0 c1 c2 c3 c4 c5 a6 b9 I b6;obtain⟨Y3,j7⟩:=qq (wr);subst j7;go_loopw [64] (λt wr=>∃k:Nat,k<=l.ar.length/\t=nI k/\Hi (Ok Y wr)) (λt _=>l.ar.length-(intOf t).toNat)
  case atStart=>exact⟨0,zL_ _,rfl,HV⟩
  clear HV;obtain⟨k,I,rfl,HV⟩:=hrel;have b6:Hi _:=HY.o.six.below HV.o;obtain⟨z1,c0,c1,c2,c3,c4,c5⟩:=b6.o.pc;by_cases a6:k<l.ar.length
  ·have b9:(k:Int)<(l.ar.length:Int):=za5 a6
   have j1:IntKind.i64.wrap ((k:Int)+1)=((k+1:Nat):Int):=zd3 oM (oH HB.o.ar);have h0:Hi (wr.ownsRow w.heap.size 55 2 (.slice a1 l.ar.length W) l.ar.length (l.ar.flatMap λa=>[.string a.1,nI a.2])):=za1 (HY.o.pr 2 dC) HV.o;obtain⟨n,hn⟩:∃n,l.ar[k]?=some n:=⟨l.ar[k],gG_ a6⟩
   obtain⟨g,hg⟩:∃g,a1=some ⟨g,0,none⟩:=by
    obtain⟨g,c,e,_⟩:=h0.o.form oM
    injection e with e1
    exact⟨g,e1⟩
   subst hg;have y2:=h0.o.cells (g:=g) rfl _ _ (zq1 hn).1;have y3:=h0.o.cells (g:=g) rfl _ _ (zq1 hn).2;rw[zb7,aL]at y2 y3;have h3:=(h0.o.lt g rfl).2;have L:¬g=gq:=zN1 h0.o dC b6.o rfl;have i6:¬gq=g:=λe=>L e.symm;have g9:=hid (HB.o.an n (mG_ hn));obtain⟨nm,ln⟩:=n;simp only at y2 y3 g9;clear hn;go_wp2_with fail;obtain⟨V,hV⟩:=qq (wr.alloc (Obj.cells #[.string nm,nI ln] 55));rw[<-hV];obtain⟨rn,b8⟩:=qq (wr.heap.size);rw[<-b8];have g6:Hi (Ok wr V):=by rw[hV];exact(Ok.refl wr).alloc _
   have e1:V.cell? (aD rn 0)=some (.string nm):=by rw[hV,b8];exact(zd1 (za3 _ _)).1
   have e0:=(b6.o.below g6.o).pc.c2;have i8:rn<V.heap.size:=by rw[hV,b8];simp
   have j4:¬g=rn:=oM;have j0:¬rn=g:=oM;have k0:V.drew.cell? (aD gq 2)=some (.slice (sA g 0) l.ar.length W):=e0;have k1:V.drew.cell? (aD rn 0)=some (.string nm):=e1;have k2:Hi (rn=wr.heap.size):=b8;clear hV b8 z1 c0 c1 c2 c3 c4 c5 y3
   go_region_held3 (λw'=>w'.cell? (aD gq 2)=some (.slice (sA g 0) l.ar.length W)/\w'.cell? (aD rn 0)=some (.string nm))
    (first|(with_reducible exact⟨d0,d1⟩) | (with_reducible exact⟨k0,k1⟩) | go_keep)
    (first
    |(go_at_call 130;refine(Calls.mono (zq3 _ _ g9.o) ?_);rintro e x ⟨rfl,I⟩;have HX:Hi (Ok V x):=Ok.step (by repeat (first | exact Ok.refl _ | refine Below.drew ?_)) I;have d0:=HX.o.cell (p:=⟨gq,2,none⟩) (b6.o.below g6.o).lt e0;have d1:=HX.o.cell (p:=⟨rn,0,none⟩) i8 e1;have b7:=hid (g6.o.step HX.o);have dy:=b7.o.cell (p:=⟨g,k*2,none⟩) h3 y2;have df:=(za1 h0.o b7.o).frozenAt (k*2);have h4:=hid dy;clear I)
    | fail)
   go_wp2_with fail;exact⟨⟨k+1,a6,by go_num,(by rw[zm5 h4.o];exact HV.o.step b7.o)⟩,by simp[intOf];omega⟩
  have b9:¬(k:Int)<(l.ar.length:Int):=zb2 a6;have h9:Hi _:=HY.o.res.below HV.o;obtain⟨z9,r0,r1,r2,r3,r4,r5⟩:=h9.o.pc;have wf:=h9.o.warm;have j3:¬gq=w.heap.size+1:=HY.o.ne;have c6:¬w.heap.size+1=gq:=λe=>j3 e.symm;go_wp2_with fail
  try simp only[Exit.inBlock,Exit.then]
  refine bodyPost_ret (results_cell_row rfl _ _ (w.heap.size+1) 30 _ (0,0) _ rfl (zc9 h9.o.heap _ _ _ _ _ _) Tryz.underlying30 rfl Tryz.info30) rfl ?_;refine⟨wm4 (.slice a5 ns.length a4) (.slice a3 l.sc.length Z) (.slice a1 l.ar.length W) (.slice a7 l.sy.length b1) (.slice b0 l.si.length a8) (.slice b4 l.so.length b5),rfl,?_,HY.o.ap,zc8 (HY.o.ok.step HV.o) (Nat.le_succ _) _ _ _ _ _ _⟩;intro j hj;exact zb5 (za1 (HY.o.pr j hj) HV.o) (wq6 j hj) h9.o _ _ _ _ _ _
def wd8.sl{l:List Int}(h:wd8 w v l):SL w 1 v l.length (l.map λs=>nI s):=by
 obtain⟨_,D,cap,rfl,J⟩:=h;refine⟨by simp,by simp[Value.oneCell'],D,cap,rfl,?_⟩;rcases J with rfl | ⟨b,o,rfl,hc⟩
 ·exact .inl rfl
 refine .inr ⟨b,o,rfl,hc.lt,λj u d=>?_⟩;rw[aX]at d
 cases e:l[j]? with
 | none=>rw[e]at d;cases d
 | some x =>
  rw[e]at d;obtain⟨G,I⟩:=aE.1 e;rw[hc.c j G,I];exact d
def wi6.sl{l:List ByteArray}(h:wi6 w v l):SL w 1 v l.length (l.map λs=>.string s):=by
 obtain⟨_,D,cap,rfl,J⟩:=h;refine⟨by simp,by simp[Value.oneCell'],D,cap,rfl,?_⟩;rcases J with rfl | ⟨b,o,rfl,hc⟩
 ·exact .inl rfl
 refine .inr ⟨b,o,rfl,hc.lt,λj u d=>?_⟩;rw[aX]at d
 cases e:l[j]? with
 | none=>rw[e]at d;cases d
 | some x =>
  rw[e]at d;obtain⟨G,I⟩:=aE.1 e;rw[hc.c j G,I];exact d
def zN2(l:List (ByteArray×Int)):(l.flatMap λa=>[Value.string a.1,nI a.2]).length=l.length*2:=by
 induction l with
 | nil=>rfl
 | cons a l ih=>rw[eV,aA,ih,aR];simp;omega
def yt9{o:Nat}{l:List (ByteArray×Int)}(I:wj2 w b o l)(j:Nat)(u:Value)(D:(l.flatMap λa=>[Value.string a.1,nI a.2])[j]?=some u):w.cell? ⟨b,o+j,none⟩=some u:=by
 have K:j<l.length*2:=by have:=(aE.1 D).1;rw[zN2]at this;exact this
 have G:j/2<l.length:=oM;have J:=zq1 (gG_ G);rcases(show j=j/2*2\/j=j/2*2+1 by omega) with e | e
 ·rw[e]at D ⊢
  rw[J.1]at D;rw[I.c _ G];exact D
 rw[e]at D ⊢;rw[J.2]at D;rw[<-dP,I.d _ G];exact D
def wi8.sl{l:List (ByteArray×Int)}(h:wi8 w v l):SL w 2 v l.length (l.flatMap λa=>[.string a.1,nI a.2]):=by
 obtain⟨_,D,cap,rfl,G⟩:=h;refine⟨zN2 l,?_,D,cap,rfl,?_⟩
 ·intro u d
  rw[eH]at d;obtain⟨a,_,d⟩:=d;simp at d
  rcases d with rfl | rfl<;>rfl
 rcases G with rfl | ⟨b,o,rfl,hc⟩
 ·exact .inl rfl
 exact .inr ⟨b,o,rfl,hc.lt,yt9 hc⟩
def yu0{o:Nat}(G:AV w b o ns)(j:Nat)(u:Value)(d:(ndL ns)[j]?=some u):w.cell? ⟨b,o+j,none⟩=some u:=by
 have O:j<ns.length*6:=by have:=(aE.1 d).1;rw[zu2]at this;exact this
 have D:j/6<ns.length:=oM;obtain⟨a0,J,I,R,L,K⟩:=zg3 (gG_ D);rcases(show j=j/6*6\/j=j/6*6+1\/j=j/6*6+2\/j=j/6*6+3\/j=j/6*6+4\/j=j/6*6+5 by omega) with e | e | e | e | e | e
 ·rw[e]at d ⊢;rw[a0]at d;rw[G.c0 _ D];exact d
 ·rw[e]at d ⊢;rw[J]at d;rw[<-dP,G.c1 _ D];exact d
 ·rw[e]at d ⊢;rw[I]at d;rw[<-dP,G.c2 _ D];exact d
 ·rw[e]at d ⊢;rw[R]at d;rw[<-dP,G.c3 _ D];exact d
 ·rw[e]at d ⊢;rw[L]at d;rw[<-dP,G.c4 _ D];exact d
 rw[e]at d ⊢;rw[K]at d;rw[<-dP,G.c5 _ D];exact d
def DF.sl(h:DF w v ns):SL w 6 v ns.length (ndL ns):=by
 obtain⟨_,d,cap,rfl,_,_,D⟩:=h;refine⟨zu2 ns,zu3 ns,d,cap,rfl,?_⟩;rcases D with rfl | ⟨b,o,rfl,hc⟩
 ·exact .inl rfl
 exact .inr ⟨b,o,rfl,hc.lt,yu0 hc⟩
def BV.pl6{v0 v1 v2 v3 v4 v5:Value}{l:Ls}(h:BV w v0 v1 v2 v3 v4 v5 ns l):PL6 w v0 v1 v2 v3 v4 v5 ns l:=⟨h.nodes.sl,h.lists.sc.sl,h.lists.ar.sl,h.lists.sy.sl,h.lists.si.sl,h.lists.so.sl⟩
def yu1{n:Nd}(h:ES n=true):n.name.size<=16:=by
 unfold ES wh1 at h;simp only[bM]at h;have d:=h.2.1;rw[<-zc2]
 split at d
 ·unfold CP at d
  simp only[bM,bV]at d;omega
 have:n.name.toList=[]:=by simpa using d
 rw[this];simp
def zv2(ns:List Nd):∀(t:List Nd) (i:Nat) (l:Ls),(∀s∈(AR ns t i l).2.2.sc,s∈l.sc\/∃n∈t,s=n.name)/\(∀a∈(AR ns t i l).2.2.ar,a∈l.ar\/∃n∈t,a.1=n.name)
 | [],i,l=>⟨λs d=>.inl d,λa o=>.inl o⟩
 | n::t,i,l=>by
  rw[AR]
  split
  ·obtain⟨D,G⟩:=zv2 ns t (i+1) (BD ns i n l)
   refine⟨λs d=>?_,λa o=>?_⟩
   ·rcases D s d with h | ⟨m,hm,e⟩
    ·unfold BD at h
     simp only at h
     split at h
     ·rw[bA,aT]at h
      rcases h with h | h
      ·exact .inl h
      exact .inr ⟨n,aY,h⟩
     exact .inl h
    exact .inr ⟨m,bG _ hm,e⟩
   rcases G a o with h | ⟨m,hm,e⟩
   ·unfold BD at h
    simp only at h
    split at h
    ·rw[bA,aT]at h
     rcases h with h | h
     ·exact .inl h
     exact .inr ⟨n,aY,by rw[h]⟩
    exact .inl h
   exact .inr ⟨m,bG _ hm,e⟩
  exact⟨λs d=>.inl d,λa o=>.inl o⟩
def yC3(hok:∀n∈ns,n.Ok)(D:(AP ns rd0).1=0)(h:CA w b (AP ns rd0).2.2):Bd6 ns (BU (AP ns rd0).2.2):=by
 have J:(BL ns).1=0:=by
  by_cases c:(BL ns).1=0
  ·exact c
  unfold AP at D;rw[aC c]at D;exact absurd D c
 have G:∀n∈ns,n.name.size<=16:=by intro n d;obtain⟨i,o,e⟩:=eY.1 d;rw[<-e];exact yu1 ((zP0 J).fit i o)
 have W:=zj1 ns D;have Z:=h.rest.len;have Y:=h.names.sl;have X:=h.names.al;have h3:=h.rest.sites;have O:=zw4 ns hok
 have K:BU (AP ns rd0).2.2=(AR ns ns 0 ⟨[],[],[],[],[]⟩).2.2:=by
  have e:(AA ns).2.2=BU (AP ns rd0).2.2:=by rw[O]
  rw[<-e];unfold AA;rw[aG (by rw[zz0 ns hok];exact J)]
 obtain⟨R,L⟩:=zv2 ns ns 0 ⟨[],[],[],[],[]⟩;refine⟨oM,by simp only[BU];omega,by simp only[BU,aM];omega,by simp only[BU];omega,by simp only[BU,aM];omega,by simp only[BU];omega,λn d=>by have:=G n d;omega,λs o=>?_,λa I=>?_⟩
 ·rw[K]at o
  rcases R s o with h' | ⟨n,d,e⟩
  ·cases h'
  rw[e];have:=G n d;omega
 rw[K]at I;rcases L a I with h' | ⟨n,d,e⟩
 ·cases h'
 rw[e];have:=G n d;omega
def zN3(v:Value)(ns:List Nd)(w:World)(O:BE w)(hN:DF w v ns)(G:(AP ns rd0).1=0) :
  Calls Tryz.prog 59 #[v] w λe w'=>∃(u:Nat->Value) (er:Value),e=.returned (.tuple #[.agg #[u 0,u 1,u 2,u 3,u 4,u 5],er])/\AG w' w.heap.size u ns (BU (AP ns rd0).2.2)/\Ap u/\Ok w w':=by
 obtain⟨w0,d⟩:=qq ((w.alloc (Obj.cells #[sZ,sZ,sZ,sZ,sZ,sZ] 30)).alloc (.cells Tryz.zeroCells188 188));have D:Hi (Ok w w0):=by rw[d];exact((Ok.refl w).alloc _).alloc _
 have a5:Hi (Six w0 w.heap.size (sZ) (sZ) (sZ) (sZ) (sZ) (sZ)):=by rw[d];exact(Six.new w _ _ _ _ _ _).below ((Ok.refl _).alloc _)
 have b6:Hi (CA w0 (w.heap.size+1) rd0):=by have:=zO6 (w.alloc (Obj.cells #[sZ,sZ,sZ,sZ,sZ,sZ] 30));rw[show(w.alloc (Obj.cells #[sZ,sZ,sZ,sZ,sZ,sZ] 30)).heap.size=w.heap.size+1 from by simp]at this;unfold Hi;rw[d];exact this
 have b0:Hi (w0.heap.size=w.heap.size+2):=by unfold Hi;rw[d];simp
 have b5:=hid hN.1;have b4:=hid hN
 have J:Hi (∀_:Unit,Calls Tryz.prog 90 #[.pointer (some ⟨w.heap.size+1,0,none⟩),v] w0 λe w'=>e=.returned (.tuple #[nI (AP ns rd0).1,nI (AP ns rd0).2.1])/\AB (w.heap.size+1) w0 w'/\((AP ns rd0).1=0->CA w' (w.heap.size+1) (AP ns rd0).2.2)):=λ_=>zO8 (w.heap.size+1) v ns w0 (O.below D.o) (hN.below D.o) (λg o=>oM) (λnb o cap e I=>by
   obtain⟨_,ao,L,K,_,_,k⟩:=hN;obtain⟨b,o',rfl,hn⟩:=k.resolve_left I;have X:=hn.lt;rw[e]at K
   injection K with W e2 Z
   injection W with R
   injection R with Y
   omega) b6.o
 obtain⟨_,ao,cap,rfl,_⟩:=hN;obtain⟨⟨a4,b8,rr⟩,o⟩:∃q,q=AP ns rd0:=⟨_,rfl⟩;have a9:Hi (∀{w':World},CA w' (w.heap.size+1) rr->Bd6 ns (BU rr)):=λ{w'} h=>by have:=yC3 b5.o G (w:=w') (b:=w.heap.size+1) (by rw[<-o];exact h);rw[<-o]at this;exact this
 have a3:Hi (rr.sy.length=ns.length/\ns.length<=300):=by have:=zj1 ns G;rw[<-o]at this;exact this
 rw[<-o]at J G ⊢;have hc:a4=0:=G;subst hc;clear O o G;go_enter Tryz.func59,Tryz.ntmps59;go_wp2_with fail;rw[<-d];clear d;refine mq (J.o ()) λw1 ⟨I,L⟩=>?_;have b3:Hi (Ok w w1):=I.below D.o oM (oH b0.o);have b1:Hi (Six w1 w.heap.size (sZ) (sZ) (sZ) (sZ) (sZ) (sZ)):=⟨(I.block w.heap.size oM a5.o.lt).trans a5.o.heap⟩;have X:Hi (CA w1 (w.heap.size+1) rr):=(by first | exact L rfl | exact L trivial);have b7:=hid X.o.names.lt;clear I L J;go_wp2_with fail;refine mq (zO5 (w.heap.size+1) ns.length cap ao rr w1 X.o a3.o.2) λw2 o=>?_;have K:=hid (b3.o.step o);have a8:=hid (b1.o.below o);have a1:=hid (X.o.below o);clear o;go_wp2_with fail;refine(yj9 _ _ _ _ _ _ ns (BU rr) w2 (BV.pl6 ⟨b4.o.below K.o,zY0 a1.o a3.o.1⟩) (a9.o a1.o)).mono ?_;rintro e w3 ⟨u,rfl,hu,a2,G⟩;have a7:=hid a2;have a6:=hid (K.o.step G);have d:=hid (a8.o.below G);have O:=hid hu;have b2:=hid K.o.le;clear hu G a2;obtain⟨o0,p0,e0⟩:=za0 (O.o 0 dC);obtain⟨o1,p1,W⟩:=za0 (O.o 1 dC);obtain⟨o2,p2,e2⟩:=za0 (O.o 2 dC);obtain⟨o3,p3,Z⟩:=za0 (O.o 3 dC);obtain⟨o4,p4,R⟩:=za0 (O.o 4 dC);obtain⟨o5,p5,Y⟩:=za0 (O.o 5 dC);have HE:Hi (u 0=_/\u 1=_/\u 2=_/\u 3=_/\u 4=_/\u 5=_):=⟨e0,W,e2,Z,R,Y⟩;rw[e0,W,e2,Z,R,Y];clear e0 W e2 Z R Y;obtain⟨z1,c0,c1,c2,c3,c4,c5⟩:=d.o.pc;have wf:=d.o.warm;go_wp2_with fail
 try simp only[Exit.inBlock,Exit.then]
 refine bodyPost_ret (zc0 rfl _ _ w.heap.size 30 _ (0,0) _ rfl (zc9 d.o.heap _ _ _ _ _ _) Tryz.underlying30 rfl Tryz.info30) rfl ?_;refine⟨u,.nilIface,?_,?_,a7.o,zc8 a6.o (nR_ _) _ _ _ _ _ _⟩
 ·obtain⟨e0,W,e2,Z,R,Y⟩:=HE.o
  rw[e0,W,e2,Z,R,Y];rfl
 intro j hj;exact za7 (zb5 (O.o j hj) (wq6 j hj) d.o _ _ _ _ _ _) b2.o
end Go.Proofs.YthoegkcpmgalbaaGreatDoor
