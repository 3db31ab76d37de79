import Derived.Test.YtpongdpnbclchaaGreatDoorKPk0
set_option maxHeartbeats 8000000
set_option linter.all false
set_option maxRecDepth 100000
namespace Go.Proofs.YtpongdpnbclchaaGreatDoor
variable{b:Nat}{ns:List Nd}{v:Value}{w:World}
section
open Go.RowKit
theorem yj9(v0 v1 v2 v3 v4 v5:Value)(ns:List Nd)(l:Ls)(w:World)(h:PL6 w v0 v1 v2 v3 v4 v5 ns l)(hb:Bd6 ns l) :
  Calls Tryz.prog 90 #[.agg #[v0,v1,v2,v3,v4,v5]] w λe w'=>∃u:Nat->Value,e=.returned (.agg #[u 0,u 1,u 2,u 3,u 4,u 5])/\BZ w' w.heap.size u ns l/\Ap u/\Ok w w':=by
 have HB:=hid hb;have HP:=hid h;clear h hb;obtain⟨w0,hw0⟩:=qq ((w.alloc (Obj.cells #[v0,v1,v2,v3,v4,v5] 33)).alloc (Obj.cells #[sZ,sZ,sZ,sZ,sZ,sZ] 33));have HW0:Hi (Ok w w0):=by rw[hw0];exact((Ok.refl w).alloc _).alloc _
 have HA0:Hi (PC w0 w.heap.size v0 v1 v2 v3 v4 v5):=by rw[hw0];exact(PC.new w v0 v1 v2 v3 v4 v5).below ((Below.refl _ _).alloc (Nat.le_refl _) _)
 have HX0:Hi (Six w0 (w.heap.size+1) (sZ) (sZ) (sZ) (sZ) (sZ) (sZ)):=by have:=Six.new (w.alloc (Obj.cells #[v0,v1,v2,v3,v4,v5] 33)) (sZ) (sZ) (sZ) (sZ) (sZ) (sZ);rw[show(w.alloc (Obj.cells #[v0,v1,v2,v3,v4,v5] 33)).heap.size=w.heap.size+1 from by simp]at this;unfold Hi;rw[hw0];exact this
 go_enter Tryz.func90,Tryz.ntmps90;go_wp2_with fail;rw[<-hw0];clear hw0;have HO0:=hid HW0.o;have HW2:=hid HX0.o.lt;have HQ0:=hid (Ok.refl w0);obtain⟨cl,c0,c1,c2,c3,c4,c5⟩:=HA0.o
 go_region_held3 (λw'=>w'.cell? (aD w.heap.size 0)=some v0/\w'.cell? (aD w.heap.size 1)=some v1/\w'.cell? (aD w.heap.size 2)=some v2/\w'.cell? (aD w.heap.size 3)=some v3/\w'.cell? (aD w.heap.size 4)=some v4/\w'.cell? (aD w.heap.size 5)=some v5)
  (first|(with_reducible exact⟨d0,d1,d2,d3,d4,d5⟩) | (with_reducible exact⟨c0,c1,c2,c3,c4,c5⟩) | go_keep)
  (first
  |(go_at_call 119;refine(Calls.mono (zW7 _ _ _ _ (HP.o.nd.below (by repeat (first | exact HO0.o | refine Ok.alloc ?_ _ | refine Below.drew ?_))) (by have:=HB.o.nd;omega)) ?_);rintro e x0 ⟨u0,rfl,hu,hk⟩;have HO1:Hi (Ok w x0):=Ok.step (by repeat (first | exact HO0.o | refine Ok.alloc ?_ _ | refine Below.drew ?_)) hk;have HU0:Hi (x0.ownsRow w.heap.size 78 6 u0 ns.length (ndL ns)):=za7 hu (Ok.le (by repeat (first | exact HO0.o | refine Ok.alloc ?_ _ | refine Below.drew ?_)));have HPC:Hi (PC x0 w.heap.size v0 v1 v2 v3 v4 v5):=HA0.o.below (Ok.step (w0:=w0) (by repeat (first | exact HQ0.o | refine Ok.alloc ?_ _ | refine Below.drew ?_)) hk);have HQ1:Hi (Ok w0 x0):=Ok.step (by repeat (first | exact HQ0.o | refine Ok.alloc ?_ _ | refine Below.drew ?_)) hk;obtain⟨ao0,cp0,rfl⟩:=za0 hu;obtain⟨dl,d0,d1,d2,d3,d4,d5⟩:=HPC.o;have HN0:Hi (Ok w0 x0):=Ok.step (by repeat (first | exact Ok.refl _ | refine Ok.alloc ?_ _ | refine Below.drew ?_)) hk;have KR0:Hi _:=(λ(g:Nat) (o:Obj) (h:_=some o)=>Ok.row' (g:=g) hk h);clear hu hk HPC)
  |(go_at_call 120;refine(Calls.mono (zW8 _ _ _ _ (HP.o.sc.below (by repeat (first | exact HO1.o | refine Ok.alloc ?_ _ | refine Below.drew ?_))) (by have:=HB.o.sc;omega)) ?_);rintro e x1 ⟨u1,rfl,hu,hk⟩;have HO2:Hi (Ok w x1):=Ok.step (by repeat (first | exact HO1.o | refine Ok.alloc ?_ _ | refine Below.drew ?_)) hk;have HU1:Hi (x1.ownsRow w.heap.size 9 1 u1 l.sc.length (l.sc.map λs=>.string s)):=za7 hu (Ok.le (by repeat (first | exact HO1.o | refine Ok.alloc ?_ _ | refine Below.drew ?_)));have HPC:Hi (PC x1 w.heap.size v0 v1 v2 v3 v4 v5):=HA0.o.below (Ok.step (w0:=w0) (by repeat (first | exact HQ1.o | refine Ok.alloc ?_ _ | refine Below.drew ?_)) hk);have HQ2:Hi (Ok w0 x1):=Ok.step (by repeat (first | exact HQ1.o | refine Ok.alloc ?_ _ | refine Below.drew ?_)) hk;obtain⟨ao1,cp1,rfl⟩:=za0 hu;obtain⟨dl,d0,d1,d2,d3,d4,d5⟩:=HPC.o;have HN1:Hi (Ok x0 x1):=Ok.step (by repeat (first | exact Ok.refl _ | refine Ok.alloc ?_ _ | refine Below.drew ?_)) hk;have KR1:Hi _:=(λ(g:Nat) (o:Obj) (h:_=some o)=>Ok.row' (g:=g) hk h);clear hu hk HPC)
  |(go_at_call 121;refine(Calls.mono (zW9 _ _ _ _ (HP.o.ar.below (by repeat (first | exact HO2.o | refine Ok.alloc ?_ _ | refine Below.drew ?_))) (by have:=HB.o.ar;omega)) ?_);rintro e x2 ⟨u2,rfl,hu,hk⟩;have HO3:Hi (Ok w x2):=Ok.step (by repeat (first | exact HO2.o | refine Ok.alloc ?_ _ | refine Below.drew ?_)) hk;have HU2:Hi (x2.ownsRow w.heap.size 112 2 u2 l.ar.length (l.ar.flatMap λa=>[.string a.1,nI a.2])):=za7 hu (Ok.le (by repeat (first | exact HO2.o | refine Ok.alloc ?_ _ | refine Below.drew ?_)));have HPC:Hi (PC x2 w.heap.size v0 v1 v2 v3 v4 v5):=HA0.o.below (Ok.step (w0:=w0) (by repeat (first | exact HQ2.o | refine Ok.alloc ?_ _ | refine Below.drew ?_)) hk);have HQ3:Hi (Ok w0 x2):=Ok.step (by repeat (first | exact HQ2.o | refine Ok.alloc ?_ _ | refine Below.drew ?_)) hk;obtain⟨ao2,cp2,rfl⟩:=za0 hu;obtain⟨dl,d0,d1,d2,d3,d4,d5⟩:=HPC.o;have HN2:Hi (Ok x1 x2):=Ok.step (by repeat (first | exact Ok.refl _ | refine Ok.alloc ?_ _ | refine Below.drew ?_)) hk;have KR2:Hi _:=(λ(g:Nat) (o:Obj) (h:_=some o)=>Ok.row' (g:=g) hk h);clear hu hk HPC)
  |(go_at_call_of 122 (v3);refine(Calls.mono (zq2 _ _ _ _ (HP.o.sy.below (by repeat (first | exact HO3.o | refine Ok.alloc ?_ _ | refine Below.drew ?_))) (by have:=HB.o.sy;omega)) ?_);rintro e x3 ⟨u3,rfl,hu,hk⟩;have HO4:Hi (Ok w x3):=Ok.step (by repeat (first | exact HO3.o | refine Ok.alloc ?_ _ | refine Below.drew ?_)) hk;have HU3:Hi (x3.ownsRow w.heap.size 3 1 u3 l.sy.length (l.sy.map λs=>nI s)):=za7 hu (Ok.le (by repeat (first | exact HO3.o | refine Ok.alloc ?_ _ | refine Below.drew ?_)));have HPC:Hi (PC x3 w.heap.size v0 v1 v2 v3 v4 v5):=HA0.o.below (Ok.step (w0:=w0) (by repeat (first | exact HQ3.o | refine Ok.alloc ?_ _ | refine Below.drew ?_)) hk);have HQ4:Hi (Ok w0 x3):=Ok.step (by repeat (first | exact HQ3.o | refine Ok.alloc ?_ _ | refine Below.drew ?_)) hk;obtain⟨ao3,cp3,rfl⟩:=za0 hu;obtain⟨dl,d0,d1,d2,d3,d4,d5⟩:=HPC.o;have HN3:Hi (Ok x2 x3):=Ok.step (by repeat (first | exact Ok.refl _ | refine Ok.alloc ?_ _ | refine Below.drew ?_)) hk;have KR3:Hi _:=(λ(g:Nat) (o:Obj) (h:_=some o)=>Ok.row' (g:=g) hk h);clear hu hk HPC)
  |(go_at_call_of 122 (v4);refine(Calls.mono (zq2 _ _ _ _ (HP.o.si.below (by repeat (first | exact HO4.o | refine Ok.alloc ?_ _ | refine Below.drew ?_))) (by have:=HB.o.si;omega)) ?_);rintro e x4 ⟨u4,rfl,hu,hk⟩;have HM4:Hi (∀b,u4.ownBlock=some b->x3.heap.size<=b):=(λb h=>Nat.le_trans (Ok.le (w0:=x3) (by repeat (first | exact Ok.refl _ | refine Ok.alloc ?_ _ | refine Below.drew ?_))) (hu.lt b h).1);have HO5:Hi (Ok w x4):=Ok.step (by repeat (first | exact HO4.o | refine Ok.alloc ?_ _ | refine Below.drew ?_)) hk;have HU4:Hi (x4.ownsRow w.heap.size 3 1 u4 l.si.length (l.si.map λs=>nI s)):=za7 hu (Ok.le (by repeat (first | exact HO4.o | refine Ok.alloc ?_ _ | refine Below.drew ?_)));have HPC:Hi (PC x4 w.heap.size v0 v1 v2 v3 v4 v5):=HA0.o.below (Ok.step (w0:=w0) (by repeat (first | exact HQ4.o | refine Ok.alloc ?_ _ | refine Below.drew ?_)) hk);have HQ5:Hi (Ok w0 x4):=Ok.step (by repeat (first | exact HQ4.o | refine Ok.alloc ?_ _ | refine Below.drew ?_)) hk;obtain⟨ao4,cp4,rfl⟩:=za0 hu;obtain⟨dl,d0,d1,d2,d3,d4,d5⟩:=HPC.o;have HN4:Hi (Ok x3 x4):=Ok.step (by repeat (first | exact Ok.refl _ | refine Ok.alloc ?_ _ | refine Below.drew ?_)) hk;have KR4:Hi _:=(λ(g:Nat) (o:Obj) (h:_=some o)=>Ok.row' (g:=g) hk h);clear hu hk HPC)
  |(go_at_call_of 122 (v5);refine(Calls.mono (zq2 _ _ _ _ (HP.o.so.below (by repeat (first | exact HO5.o | refine Ok.alloc ?_ _ | refine Below.drew ?_))) (by have:=HB.o.so;omega)) ?_);rintro e x5 ⟨u5,rfl,hu,hk⟩;have HM5:Hi (∀b,u5.ownBlock=some b->x4.heap.size<=b):=(λb h=>Nat.le_trans (Ok.le (w0:=x4) (by repeat (first | exact Ok.refl _ | refine Ok.alloc ?_ _ | refine Below.drew ?_))) (hu.lt b h).1);have HO6:Hi (Ok w x5):=Ok.step (by repeat (first | exact HO5.o | refine Ok.alloc ?_ _ | refine Below.drew ?_)) hk;have HU5:Hi (x5.ownsRow w.heap.size 3 1 u5 l.so.length (l.so.map λs=>nI s)):=za7 hu (Ok.le (by repeat (first | exact HO5.o | refine Ok.alloc ?_ _ | refine Below.drew ?_)));have HPC:Hi (PC x5 w.heap.size v0 v1 v2 v3 v4 v5):=HA0.o.below (Ok.step (w0:=w0) (by repeat (first | exact HQ5.o | refine Ok.alloc ?_ _ | refine Below.drew ?_)) hk);have HQ6:Hi (Ok w0 x5):=Ok.step (by repeat (first | exact HQ5.o | refine Ok.alloc ?_ _ | refine Below.drew ?_)) hk;obtain⟨ao5,cp5,rfl⟩:=za0 hu;obtain⟨dl,d0,d1,d2,d3,d4,d5⟩:=HPC.o;have HN5:Hi (Ok x4 x5):=Ok.step (by repeat (first | exact Ok.refl _ | refine Ok.alloc ?_ _ | refine Below.drew ?_)) hk;have KR5:Hi _:=(λ(g:Nat) (o:Obj) (h:_=some o)=>Ok.row' (g:=g) hk h);(first|(have HSX:Hi (Six x5 w0.heap.size (sZ) (sZ) (sZ) (sZ) (sZ) (sZ)):=⟨(KR5.o _ _ (KR4.o _ _ (KR3.o _ _ (KR2.o _ _ (KR1.o _ _ (KR0.o _ _ (by with_reducible exact zO4 _ _)))))))⟩;have hne1:¬w.heap.size=w0.heap.size:=(by have h1:=HA0.o.lt;have h2:=HQ0.o.le;omega);have hne2:¬w0.heap.size=w.heap.size:=(by have h1:=HA0.o.lt;have h2:=HQ0.o.le;omega);have wf:=HSX.o.warm;obtain⟨sl,g0,g1,g2,g3,g4,g5⟩:=HSX.o.pc) | (have HSX:Hi (Six x5 x0.heap.size (sZ) (sZ) (sZ) (sZ) (sZ) (sZ)):=⟨(KR5.o _ _ (KR4.o _ _ (KR3.o _ _ (KR2.o _ _ (KR1.o _ _ (by with_reducible exact za3 _ _))))))⟩;have hne1:¬w.heap.size=x0.heap.size:=(by have h1:=HA0.o.lt;have h2:=HQ1.o.le;omega);have hne2:¬x0.heap.size=w.heap.size:=(by have h1:=HA0.o.lt;have h2:=HQ1.o.le;omega);have wf:=HSX.o.warm;obtain⟨sl,g0,g1,g2,g3,g4,g5⟩:=HSX.o.pc) | (have HSX:Hi (Six x5 x1.heap.size (sZ) (sZ) (sZ) (sZ) (sZ) (sZ)):=⟨(KR5.o _ _ (KR4.o _ _ (KR3.o _ _ (KR2.o _ _ (by with_reducible exact za3 _ _)))))⟩;have hne1:¬w.heap.size=x1.heap.size:=(by have h1:=HA0.o.lt;have h2:=HQ2.o.le;omega);have hne2:¬x1.heap.size=w.heap.size:=(by have h1:=HA0.o.lt;have h2:=HQ2.o.le;omega);have wf:=HSX.o.warm;obtain⟨sl,g0,g1,g2,g3,g4,g5⟩:=HSX.o.pc) | (have HSX:Hi (Six x5 x2.heap.size (sZ) (sZ) (sZ) (sZ) (sZ) (sZ)):=⟨(KR5.o _ _ (KR4.o _ _ (KR3.o _ _ (by with_reducible exact za3 _ _))))⟩;have hne1:¬w.heap.size=x2.heap.size:=(by have h1:=HA0.o.lt;have h2:=HQ3.o.le;omega);have hne2:¬x2.heap.size=w.heap.size:=(by have h1:=HA0.o.lt;have h2:=HQ3.o.le;omega);have wf:=HSX.o.warm;obtain⟨sl,g0,g1,g2,g3,g4,g5⟩:=HSX.o.pc) | (have HSX:Hi (Six x5 x3.heap.size (sZ) (sZ) (sZ) (sZ) (sZ) (sZ)):=⟨(KR5.o _ _ (KR4.o _ _ (by with_reducible exact za3 _ _)))⟩;have hne1:¬w.heap.size=x3.heap.size:=(by have h1:=HA0.o.lt;have h2:=HQ4.o.le;omega);have hne2:¬x3.heap.size=w.heap.size:=(by have h1:=HA0.o.lt;have h2:=HQ4.o.le;omega);have wf:=HSX.o.warm;obtain⟨sl,g0,g1,g2,g3,g4,g5⟩:=HSX.o.pc) | (have HSX:Hi (Six x5 x4.heap.size (sZ) (sZ) (sZ) (sZ) (sZ) (sZ)):=⟨(KR5.o _ _ (by with_reducible exact za3 _ _))⟩;have hne1:¬w.heap.size=x4.heap.size:=(by have h1:=HA0.o.lt;have h2:=HQ5.o.le;omega);have hne2:¬x4.heap.size=w.heap.size:=(by have h1:=HA0.o.lt;have h2:=HQ5.o.le;omega);have wf:=HSX.o.warm;obtain⟨sl,g0,g1,g2,g3,g4,g5⟩:=HSX.o.pc) | skip);clear hu hk HPC)
  | fail)
 all_goals have HRS:=hid (HX0.o.below HQ6.o)
 all_goals (first
  |(obtain⟨Y,hY⟩:=qq (((((((x5.setCell (aD w0.heap.size 0) (.slice ao0 ns.length cp0)).setCell (aD w0.heap.size 1) (.slice ao1 l.sc.length cp1)).setCell (aD w0.heap.size 2) (.slice ao2 l.ar.length cp2)).setCell (aD w0.heap.size 3) (.slice ao3 l.sy.length cp3)).setCell (aD w0.heap.size 4) (.slice ao4 l.si.length cp4)).setCell (aD w0.heap.size 5) (.slice ao5 l.so.length cp5)));rw[<-hY];have HY:Hi (OwF w Y w0.heap.size (.slice ao0 ns.length cp0) (.slice ao1 l.sc.length cp1) (.slice ao2 l.ar.length cp2) (.slice ao3 l.sy.length cp3) (.slice ao4 l.si.length cp4) (.slice ao5 l.so.length cp5) ns l):=(by unfold Hi;rw[hY];exact⟨⟨zc9 HSX.o.heap _ _ _ _ _ _⟩,zn4 HRS.o (by have h1:=HW2.o;have h2:=HQ0.o.le;omega) _ _ _ _ _ _,(by have h1:=HW2.o;have h2:=HQ0.o.le;omega),(by have h1:=HW2.o;have h2:=HQ0.o.le;omega),zc8 HO6.o (by have h1:=HW2.o;have h2:=HQ0.o.le;omega) _ _ _ _ _ _,BZ.of6 (zb5 (za1 (za1 (za1 (za1 (za1 HU0.o HN1.o) HN2.o) HN3.o) HN4.o) HN5.o) (by decide) HSX.o _ _ _ _ _ _) (zb5 (za1 (za1 (za1 (za1 HU1.o HN2.o) HN3.o) HN4.o) HN5.o) (by decide) HSX.o _ _ _ _ _ _) (zb5 (za1 (za1 (za1 HU2.o HN3.o) HN4.o) HN5.o) (by decide) HSX.o _ _ _ _ _ _) (zb5 (za1 (za1 HU3.o HN4.o) HN5.o) (by decide) HSX.o _ _ _ _ _ _) (zb5 (za1 HU4.o HN5.o) (by decide) HSX.o _ _ _ _ _ _) (zb5 HU5.o (by decide) HSX.o _ _ _ _ _ _),wh1 HU3.o HU4.o HM4.o HM5.o HN4.o.le⟩);obtain⟨gq,hgq⟩:=qq (w0.heap.size);rw[<-hgq]at HY ⊢)
  |(obtain⟨Y,hY⟩:=qq (((((((x5.setCell (aD x0.heap.size 0) (.slice ao0 ns.length cp0)).setCell (aD x0.heap.size 1) (.slice ao1 l.sc.length cp1)).setCell (aD x0.heap.size 2) (.slice ao2 l.ar.length cp2)).setCell (aD x0.heap.size 3) (.slice ao3 l.sy.length cp3)).setCell (aD x0.heap.size 4) (.slice ao4 l.si.length cp4)).setCell (aD x0.heap.size 5) (.slice ao5 l.so.length cp5)));rw[<-hY];have HY:Hi (OwF w Y x0.heap.size (.slice ao0 ns.length cp0) (.slice ao1 l.sc.length cp1) (.slice ao2 l.ar.length cp2) (.slice ao3 l.sy.length cp3) (.slice ao4 l.si.length cp4) (.slice ao5 l.so.length cp5) ns l):=(by unfold Hi;rw[hY];exact⟨⟨zc9 HSX.o.heap _ _ _ _ _ _⟩,zn4 HRS.o (by have h1:=HW2.o;have h2:=HQ1.o.le;omega) _ _ _ _ _ _,(by have h1:=HW2.o;have h2:=HQ1.o.le;omega),(by have h1:=HW2.o;have h2:=HQ1.o.le;omega),zc8 HO6.o (by have h1:=HW2.o;have h2:=HQ1.o.le;omega) _ _ _ _ _ _,BZ.of6 (zb5 (za1 (za1 (za1 (za1 (za1 HU0.o HN1.o) HN2.o) HN3.o) HN4.o) HN5.o) (by decide) HSX.o _ _ _ _ _ _) (zb5 (za1 (za1 (za1 (za1 HU1.o HN2.o) HN3.o) HN4.o) HN5.o) (by decide) HSX.o _ _ _ _ _ _) (zb5 (za1 (za1 (za1 HU2.o HN3.o) HN4.o) HN5.o) (by decide) HSX.o _ _ _ _ _ _) (zb5 (za1 (za1 HU3.o HN4.o) HN5.o) (by decide) HSX.o _ _ _ _ _ _) (zb5 (za1 HU4.o HN5.o) (by decide) HSX.o _ _ _ _ _ _) (zb5 HU5.o (by decide) HSX.o _ _ _ _ _ _),wh1 HU3.o HU4.o HM4.o HM5.o HN4.o.le⟩);obtain⟨gq,hgq⟩:=qq (x0.heap.size);rw[<-hgq]at HY ⊢)
  |(obtain⟨Y,hY⟩:=qq (((((((x5.setCell (aD x1.heap.size 0) (.slice ao0 ns.length cp0)).setCell (aD x1.heap.size 1) (.slice ao1 l.sc.length cp1)).setCell (aD x1.heap.size 2) (.slice ao2 l.ar.length cp2)).setCell (aD x1.heap.size 3) (.slice ao3 l.sy.length cp3)).setCell (aD x1.heap.size 4) (.slice ao4 l.si.length cp4)).setCell (aD x1.heap.size 5) (.slice ao5 l.so.length cp5)));rw[<-hY];have HY:Hi (OwF w Y x1.heap.size (.slice ao0 ns.length cp0) (.slice ao1 l.sc.length cp1) (.slice ao2 l.ar.length cp2) (.slice ao3 l.sy.length cp3) (.slice ao4 l.si.length cp4) (.slice ao5 l.so.length cp5) ns l):=(by unfold Hi;rw[hY];exact⟨⟨zc9 HSX.o.heap _ _ _ _ _ _⟩,zn4 HRS.o (by have h1:=HW2.o;have h2:=HQ2.o.le;omega) _ _ _ _ _ _,(by have h1:=HW2.o;have h2:=HQ2.o.le;omega),(by have h1:=HW2.o;have h2:=HQ2.o.le;omega),zc8 HO6.o (by have h1:=HW2.o;have h2:=HQ2.o.le;omega) _ _ _ _ _ _,BZ.of6 (zb5 (za1 (za1 (za1 (za1 (za1 HU0.o HN1.o) HN2.o) HN3.o) HN4.o) HN5.o) (by decide) HSX.o _ _ _ _ _ _) (zb5 (za1 (za1 (za1 (za1 HU1.o HN2.o) HN3.o) HN4.o) HN5.o) (by decide) HSX.o _ _ _ _ _ _) (zb5 (za1 (za1 (za1 HU2.o HN3.o) HN4.o) HN5.o) (by decide) HSX.o _ _ _ _ _ _) (zb5 (za1 (za1 HU3.o HN4.o) HN5.o) (by decide) HSX.o _ _ _ _ _ _) (zb5 (za1 HU4.o HN5.o) (by decide) HSX.o _ _ _ _ _ _) (zb5 HU5.o (by decide) HSX.o _ _ _ _ _ _),wh1 HU3.o HU4.o HM4.o HM5.o HN4.o.le⟩);obtain⟨gq,hgq⟩:=qq (x1.heap.size);rw[<-hgq]at HY ⊢)
  |(obtain⟨Y,hY⟩:=qq (((((((x5.setCell (aD x2.heap.size 0) (.slice ao0 ns.length cp0)).setCell (aD x2.heap.size 1) (.slice ao1 l.sc.length cp1)).setCell (aD x2.heap.size 2) (.slice ao2 l.ar.length cp2)).setCell (aD x2.heap.size 3) (.slice ao3 l.sy.length cp3)).setCell (aD x2.heap.size 4) (.slice ao4 l.si.length cp4)).setCell (aD x2.heap.size 5) (.slice ao5 l.so.length cp5)));rw[<-hY];have HY:Hi (OwF w Y x2.heap.size (.slice ao0 ns.length cp0) (.slice ao1 l.sc.length cp1) (.slice ao2 l.ar.length cp2) (.slice ao3 l.sy.length cp3) (.slice ao4 l.si.length cp4) (.slice ao5 l.so.length cp5) ns l):=(by unfold Hi;rw[hY];exact⟨⟨zc9 HSX.o.heap _ _ _ _ _ _⟩,zn4 HRS.o (by have h1:=HW2.o;have h2:=HQ3.o.le;omega) _ _ _ _ _ _,(by have h1:=HW2.o;have h2:=HQ3.o.le;omega),(by have h1:=HW2.o;have h2:=HQ3.o.le;omega),zc8 HO6.o (by have h1:=HW2.o;have h2:=HQ3.o.le;omega) _ _ _ _ _ _,BZ.of6 (zb5 (za1 (za1 (za1 (za1 (za1 HU0.o HN1.o) HN2.o) HN3.o) HN4.o) HN5.o) (by decide) HSX.o _ _ _ _ _ _) (zb5 (za1 (za1 (za1 (za1 HU1.o HN2.o) HN3.o) HN4.o) HN5.o) (by decide) HSX.o _ _ _ _ _ _) (zb5 (za1 (za1 (za1 HU2.o HN3.o) HN4.o) HN5.o) (by decide) HSX.o _ _ _ _ _ _) (zb5 (za1 (za1 HU3.o HN4.o) HN5.o) (by decide) HSX.o _ _ _ _ _ _) (zb5 (za1 HU4.o HN5.o) (by decide) HSX.o _ _ _ _ _ _) (zb5 HU5.o (by decide) HSX.o _ _ _ _ _ _),wh1 HU3.o HU4.o HM4.o HM5.o HN4.o.le⟩);obtain⟨gq,hgq⟩:=qq (x2.heap.size);rw[<-hgq]at HY ⊢)
  |(obtain⟨Y,hY⟩:=qq (((((((x5.setCell (aD x3.heap.size 0) (.slice ao0 ns.length cp0)).setCell (aD x3.heap.size 1) (.slice ao1 l.sc.length cp1)).setCell (aD x3.heap.size 2) (.slice ao2 l.ar.length cp2)).setCell (aD x3.heap.size 3) (.slice ao3 l.sy.length cp3)).setCell (aD x3.heap.size 4) (.slice ao4 l.si.length cp4)).setCell (aD x3.heap.size 5) (.slice ao5 l.so.length cp5)));rw[<-hY];have HY:Hi (OwF w Y x3.heap.size (.slice ao0 ns.length cp0) (.slice ao1 l.sc.length cp1) (.slice ao2 l.ar.length cp2) (.slice ao3 l.sy.length cp3) (.slice ao4 l.si.length cp4) (.slice ao5 l.so.length cp5) ns l):=(by unfold Hi;rw[hY];exact⟨⟨zc9 HSX.o.heap _ _ _ _ _ _⟩,zn4 HRS.o (by have h1:=HW2.o;have h2:=HQ4.o.le;omega) _ _ _ _ _ _,(by have h1:=HW2.o;have h2:=HQ4.o.le;omega),(by have h1:=HW2.o;have h2:=HQ4.o.le;omega),zc8 HO6.o (by have h1:=HW2.o;have h2:=HQ4.o.le;omega) _ _ _ _ _ _,BZ.of6 (zb5 (za1 (za1 (za1 (za1 (za1 HU0.o HN1.o) HN2.o) HN3.o) HN4.o) HN5.o) (by decide) HSX.o _ _ _ _ _ _) (zb5 (za1 (za1 (za1 (za1 HU1.o HN2.o) HN3.o) HN4.o) HN5.o) (by decide) HSX.o _ _ _ _ _ _) (zb5 (za1 (za1 (za1 HU2.o HN3.o) HN4.o) HN5.o) (by decide) HSX.o _ _ _ _ _ _) (zb5 (za1 (za1 HU3.o HN4.o) HN5.o) (by decide) HSX.o _ _ _ _ _ _) (zb5 (za1 HU4.o HN5.o) (by decide) HSX.o _ _ _ _ _ _) (zb5 HU5.o (by decide) HSX.o _ _ _ _ _ _),wh1 HU3.o HU4.o HM4.o HM5.o HN4.o.le⟩);obtain⟨gq,hgq⟩:=qq (x3.heap.size);rw[<-hgq]at HY ⊢)
  |(obtain⟨Y,hY⟩:=qq (((((((x5.setCell (aD x4.heap.size 0) (.slice ao0 ns.length cp0)).setCell (aD x4.heap.size 1) (.slice ao1 l.sc.length cp1)).setCell (aD x4.heap.size 2) (.slice ao2 l.ar.length cp2)).setCell (aD x4.heap.size 3) (.slice ao3 l.sy.length cp3)).setCell (aD x4.heap.size 4) (.slice ao4 l.si.length cp4)).setCell (aD x4.heap.size 5) (.slice ao5 l.so.length cp5)));rw[<-hY];have HY:Hi (OwF w Y x4.heap.size (.slice ao0 ns.length cp0) (.slice ao1 l.sc.length cp1) (.slice ao2 l.ar.length cp2) (.slice ao3 l.sy.length cp3) (.slice ao4 l.si.length cp4) (.slice ao5 l.so.length cp5) ns l):=(by unfold Hi;rw[hY];exact⟨⟨zc9 HSX.o.heap _ _ _ _ _ _⟩,zn4 HRS.o (by have h1:=HW2.o;have h2:=HQ5.o.le;omega) _ _ _ _ _ _,(by have h1:=HW2.o;have h2:=HQ5.o.le;omega),(by have h1:=HW2.o;have h2:=HQ5.o.le;omega),zc8 HO6.o (by have h1:=HW2.o;have h2:=HQ5.o.le;omega) _ _ _ _ _ _,BZ.of6 (zb5 (za1 (za1 (za1 (za1 (za1 HU0.o HN1.o) HN2.o) HN3.o) HN4.o) HN5.o) (by decide) HSX.o _ _ _ _ _ _) (zb5 (za1 (za1 (za1 (za1 HU1.o HN2.o) HN3.o) HN4.o) HN5.o) (by decide) HSX.o _ _ _ _ _ _) (zb5 (za1 (za1 (za1 HU2.o HN3.o) HN4.o) HN5.o) (by decide) HSX.o _ _ _ _ _ _) (zb5 (za1 (za1 HU3.o HN4.o) HN5.o) (by decide) HSX.o _ _ _ _ _ _) (zb5 (za1 HU4.o HN5.o) (by decide) HSX.o _ _ _ _ _ _) (zb5 HU5.o (by decide) HSX.o _ _ _ _ _ _),wh1 HU3.o HU4.o HM4.o HM5.o HN4.o.le⟩);obtain⟨gq,hgq⟩:=qq (x4.heap.size);rw[<-hgq]at HY ⊢)
  |(obtain⟨Y,hY⟩:=qq (x5.alloc (Obj.cells #[.slice ao0 ns.length cp0,.slice ao1 l.sc.length cp1,.slice ao2 l.ar.length cp2,.slice ao3 l.sy.length cp3,.slice ao4 l.si.length cp4,.slice ao5 l.so.length cp5] 33));rw[<-hY];have HY:Hi (OwF w Y x5.heap.size (.slice ao0 ns.length cp0) (.slice ao1 l.sc.length cp1) (.slice ao2 l.ar.length cp2) (.slice ao3 l.sy.length cp3) (.slice ao4 l.si.length cp4) (.slice ao5 l.so.length cp5) ns l):=(by unfold Hi;rw[hY];exact⟨Six.new _ _ _ _ _ _ _,HRS.o.below ((Ok.refl _).alloc _),(by have h1:=HW2.o;have h2:=HQ6.o.le;omega),(by have h1:=HW2.o;have h2:=HQ6.o.le;omega),HO6.o.alloc _,BZ.of6 (World.ownsRow.alloc (za1 (za1 (za1 (za1 (za1 HU0.o HN1.o) HN2.o) HN3.o) HN4.o) HN5.o) _) (World.ownsRow.alloc (za1 (za1 (za1 (za1 HU1.o HN2.o) HN3.o) HN4.o) HN5.o) _) (World.ownsRow.alloc (za1 (za1 (za1 HU2.o HN3.o) HN4.o) HN5.o) _) (World.ownsRow.alloc (za1 (za1 HU3.o HN4.o) HN5.o) _) (World.ownsRow.alloc (za1 HU4.o HN5.o) _) (World.ownsRow.alloc HU5.o _),wh1 HU3.o HU4.o HM4.o HM5.o HN4.o.le⟩);obtain⟨gq,hgq⟩:=qq (x5.heap.size);rw[<-hgq]at HY ⊢))
 all_goals
  clear hY hgq HRS;(try clear HSX wf sl g0 g1 g2 g3 g4 g5 hne1 hne2);clear HM4 HM5 HO0 HO1 HO2 HO3 HO4 HO5 HO6 HQ0 HQ1 HQ2 HQ3 HQ4 HQ5 HQ6 HN0 HN1 HN2 HN3 HN4 HN5 KR0 KR1 KR2 KR3 KR4 KR5 HU0 HU1 HU2 HU3 HU4 HU5 d0 d1 d2 d3 d4 d5 dl;obtain⟨z1,c0,c1,c2,c3,c4,c5⟩:=HY.o.six.pc;go_wp2_with fail;clear z1 c0 c1 c2 c3 c4 c5;go_loopw [32] (λt wr=>∃k:Nat,k<=ns.length/\t=nI k/\Hi (Ok Y wr)) (λt _=>ns.length-(intOf t).toNat)
  case atStart=>exact⟨0,zL_ _,rfl,Ok.refl _⟩
  obtain⟨k,hk,rfl,HV⟩:=hrel;have HSV:Hi _:=HY.o.six.below HV.o;obtain⟨z1,c0,c1,c2,c3,c4,c5⟩:=HSV.o.pc;by_cases hlt:k<ns.length
  ·have hlt':(k:Int)<(ns.length:Int):=za5 hlt
   have hkw:IntKind.i64.wrap ((k:Int)+1)=((k+1:Nat):Int):=zd3 oM (by have:=HB.o.nd;omega);have HP0:=hid (za1 (BZ.nd0 HY.o.pr) HV.o);obtain⟨n,hn⟩:∃n,ns[k]?=some n:=⟨ns[k],gG_ hlt⟩
   obtain⟨g,hg⟩:∃g,ao0=some ⟨g,0,none⟩:=by
    obtain⟨g,c,e,_⟩:=HP0.o.form oM
    injection e with e1
    exact⟨g,e1⟩
   subst hg;obtain⟨q0,q1,q2,q3,q4,q5⟩:=zg3 hn;have y0:=HP0.o.cells (g:=g) rfl _ _ q0;have y1:=HP0.o.cells (g:=g) rfl _ _ q1;have y2:=HP0.o.cells (g:=g) rfl _ _ q2;have y3:=HP0.o.cells (g:=g) rfl _ _ q3;have y4:=HP0.o.cells (g:=g) rfl _ _ q4;have y5:=HP0.o.cells (g:=g) rfl _ _ q5;rw[zb7,Nat.zero_add]at y0 y1 y2 y3 y4 y5;have hgl:=(HP0.o.lt g rfl).2;have hgq:¬g=gq:=zN1 HP0.o dC HSV.o rfl;have hgq2:¬gq=g:=λe=>hgq e.symm;have HSZ:=hid (HB.o.nm n (mG_ hn));clear q0 q1 q2 q3 q4 q5 hn;go_wp2_with fail;obtain⟨V,hV⟩:=qq (wr.alloc (Obj.cells #[nI n.depth,nI n.kind,.string n.name,nI n.num,nI n.op,nI n.pos] 78));rw[<-hV];obtain⟨rn,hrn⟩:=qq (wr.heap.size);rw[<-hrn];have HOV:Hi (Ok wr V):=by rw[hV];exact(Ok.refl wr).alloc _
   have e1:V.cell? (aD rn 2)=some (.string n.name):=by rw[hV,hrn];exact(zV6 (za3 _ _)).2.2.1
   have e0:=(HSV.o.below HOV.o).pc.c0;have hrV:rn<V.heap.size:=by rw[hV,hrn];simp
   have hgr:¬g=rn:=oM;have hgr2:¬rn=g:=oM;have k0:V.drew.cell? (aD gq 0)=some (.slice (sA g 0) ns.length cp0):=e0;have k1:V.drew.cell? (aD rn 2)=some (.string n.name):=e1;have HRN:Hi (rn=wr.heap.size):=hrn;clear hV hrn z1 c0 c1 c2 c3 c4 c5 y0 y1 y3 y4 y5
   go_region_held3 (λw'=>w'.cell? (aD gq 0)=some (.slice (sA g 0) ns.length cp0)/\w'.cell? (aD rn 2)=some (.string n.name))
    (first|(with_reducible exact⟨d0,d1⟩) | (with_reducible exact⟨k0,k1⟩) | go_keep)
    (first
    |(go_at_call 123;refine(Calls.mono (zq3 _ _ HSZ.o) ?_);rintro e x ⟨rfl,hk⟩;have HX:Hi (Ok V x):=Ok.step (by repeat (first | exact Ok.refl _ | refine Below.drew ?_)) hk;have d0:=HX.o.cell (p:=⟨gq,0,none⟩) (HSV.o.below HOV.o).lt e0;have d1:=HX.o.cell (p:=⟨rn,2,none⟩) hrV e1;have HXW:=hid (HOV.o.step HX.o);have dy:=HXW.o.cell (p:=⟨g,k*6+2,none⟩) hgl y2;have df:=(za1 HP0.o HXW.o).frozenAt (k*6+2);have HDY:=hid dy;clear hk)
    | fail)
   go_wp2_with fail;exact⟨⟨k+1,hlt,by go_num,(by rw[zm5 HDY.o];exact HV.o.step HXW.o)⟩,by simp[intOf];omega⟩
  have hlt':¬(k:Int)<(ns.length:Int):=zb2 hlt;go_wp2_with fail;clear z1 c0 c1 c2 c3 c4 c5 hlt hlt' hk HSV;obtain⟨Y2,hY2⟩:=qq (wr);subst hY2;go_loopw [49] (λt wr=>∃k:Nat,k<=l.sc.length/\t=nI k/\Hi (Ok Y wr)) (λt _=>l.sc.length-(intOf t).toNat)
  case atStart=>exact⟨0,zL_ _,rfl,HV⟩
  clear HV;obtain⟨k,hk,rfl,HV⟩:=hrel;have HSV:Hi _:=HY.o.six.below HV.o;obtain⟨z1,c0,c1,c2,c3,c4,c5⟩:=HSV.o.pc;by_cases hlt:k<l.sc.length
  ·have hlt':(k:Int)<(l.sc.length:Int):=za5 hlt
   have hkw:IntKind.i64.wrap ((k:Int)+1)=((k+1:Nat):Int):=zd3 oM (by have:=HB.o.sc;omega);have HP1:Hi (wr.ownsRow w.heap.size 9 1 (.slice ao1 l.sc.length cp1) l.sc.length (l.sc.map λs=>.string s)):=za1 (HY.o.pr 1 dC) HV.o;obtain⟨n,hn⟩:∃n,l.sc[k]?=some n:=⟨l.sc[k],gG_ hlt⟩
   obtain⟨g,hg⟩:∃g,ao1=some ⟨g,0,none⟩:=by
    obtain⟨g,c,e,_⟩:=HP1.o.form oM
    injection e with e1
    exact⟨g,e1⟩
   subst hg;have y2:=HP1.o.cells (g:=g) rfl k (.string n) (by rw[List.getElem?_map,hn];rfl);rw[zb7,Nat.zero_add]at y2;have hgl:=(HP1.o.lt g rfl).2;have hgq:¬g=gq:=zN1 HP1.o dC HSV.o rfl;have hgq2:¬gq=g:=λe=>hgq e.symm;have HSZ:=hid (HB.o.sn n (mG_ hn));clear hn;have k0:wr.drew.cell? (aD gq 1)=some (.slice (sA g 0) l.sc.length cp1):=c1;have HLT:=hid z1;go_wp2_with fail
   go_region_held3 (λw'=>w'.cell? (aD gq 1)=some (.slice (sA g 0) l.sc.length cp1))
    (first|(with_reducible exact d0) | (with_reducible exact k0) | go_keep)
    (first
    |(go_at_call 123;refine(Calls.mono (zq3 _ _ HSZ.o) ?_);rintro e x ⟨rfl,hk⟩;have HXW:Hi (Ok wr x):=Ok.step (by repeat (first | exact Ok.refl _ | refine Below.drew ?_)) hk;have d0:=HXW.o.cell (p:=⟨gq,1,none⟩) HLT.o c1;have dy:=HXW.o.cell (p:=⟨g,k,none⟩) hgl y2;have df:=(za1 HP1.o HXW.o).frozenAt k;have HDY:=hid dy;clear hk)
    | fail)
   go_wp2_with fail;exact⟨⟨k+1,hlt,by go_num,(by rw[zm5 HDY.o];exact HV.o.step HXW.o)⟩,by simp[intOf];omega⟩
  have hlt':¬(k:Int)<(l.sc.length:Int):=zb2 hlt;go_wp2_with fail;clear z1 c0 c1 c2 c3 c4 c5 hlt hlt' hk HSV;obtain⟨Y3,hY3⟩:=qq (wr);subst hY3;go_loopw [64] (λt wr=>∃k:Nat,k<=l.ar.length/\t=nI k/\Hi (Ok Y wr)) (λt _=>l.ar.length-(intOf t).toNat)
  case atStart=>exact⟨0,zL_ _,rfl,HV⟩
  clear HV;obtain⟨k,hk,rfl,HV⟩:=hrel;have HSV:Hi _:=HY.o.six.below HV.o;obtain⟨z1,c0,c1,c2,c3,c4,c5⟩:=HSV.o.pc;by_cases hlt:k<l.ar.length
  ·have hlt':(k:Int)<(l.ar.length:Int):=za5 hlt
   have hkw:IntKind.i64.wrap ((k:Int)+1)=((k+1:Nat):Int):=zd3 oM (by have:=HB.o.ar;omega);have HP2:Hi (wr.ownsRow w.heap.size 112 2 (.slice ao2 l.ar.length cp2) l.ar.length (l.ar.flatMap λa=>[.string a.1,nI a.2])):=za1 (HY.o.pr 2 dC) HV.o;obtain⟨n,hn⟩:∃n,l.ar[k]?=some n:=⟨l.ar[k],gG_ hlt⟩
   obtain⟨g,hg⟩:∃g,ao2=some ⟨g,0,none⟩:=by
    obtain⟨g,c,e,_⟩:=HP2.o.form oM
    injection e with e1
    exact⟨g,e1⟩
   subst hg;have y2:=HP2.o.cells (g:=g) rfl _ _ (zq1 hn).1;have y3:=HP2.o.cells (g:=g) rfl _ _ (zq1 hn).2;rw[zb7,Nat.zero_add]at y2 y3;have hgl:=(HP2.o.lt g rfl).2;have hgq:¬g=gq:=zN1 HP2.o dC HSV.o rfl;have hgq2:¬gq=g:=λe=>hgq e.symm;have HSZ:=hid (HB.o.an n (mG_ hn));obtain⟨nm,ln⟩:=n;simp only at y2 y3 HSZ;clear hn;go_wp2_with fail;obtain⟨V,hV⟩:=qq (wr.alloc (Obj.cells #[.string nm,nI ln] 112));rw[<-hV];obtain⟨rn,hrn⟩:=qq (wr.heap.size);rw[<-hrn];have HOV:Hi (Ok wr V):=by rw[hV];exact(Ok.refl wr).alloc _
   have e1:V.cell? (aD rn 0)=some (.string nm):=by rw[hV,hrn];exact(zd1 (za3 _ _)).1
   have e0:=(HSV.o.below HOV.o).pc.c2;have hrV:rn<V.heap.size:=by rw[hV,hrn];simp
   have hgr:¬g=rn:=oM;have hgr2:¬rn=g:=oM;have k0:V.drew.cell? (aD gq 2)=some (.slice (sA g 0) l.ar.length cp2):=e0;have k1:V.drew.cell? (aD rn 0)=some (.string nm):=e1;have HRN:Hi (rn=wr.heap.size):=hrn;clear hV hrn z1 c0 c1 c2 c3 c4 c5 y3
   go_region_held3 (λw'=>w'.cell? (aD gq 2)=some (.slice (sA g 0) l.ar.length cp2)/\w'.cell? (aD rn 0)=some (.string nm))
    (first|(with_reducible exact⟨d0,d1⟩) | (with_reducible exact⟨k0,k1⟩) | go_keep)
    (first
    |(go_at_call 123;refine(Calls.mono (zq3 _ _ HSZ.o) ?_);rintro e x ⟨rfl,hk⟩;have HX:Hi (Ok V x):=Ok.step (by repeat (first | exact Ok.refl _ | refine Below.drew ?_)) hk;have d0:=HX.o.cell (p:=⟨gq,2,none⟩) (HSV.o.below HOV.o).lt e0;have d1:=HX.o.cell (p:=⟨rn,0,none⟩) hrV e1;have HXW:=hid (HOV.o.step HX.o);have dy:=HXW.o.cell (p:=⟨g,k*2,none⟩) hgl y2;have df:=(za1 HP2.o HXW.o).frozenAt (k*2);have HDY:=hid dy;clear hk)
    | fail)
   go_wp2_with fail;exact⟨⟨k+1,hlt,by go_num,(by rw[zm5 HDY.o];exact HV.o.step HXW.o)⟩,by simp[intOf];omega⟩
  have hlt':¬(k:Int)<(l.ar.length:Int):=zb2 hlt;have HRV:Hi _:=HY.o.res.below HV.o;obtain⟨z9,r0,r1,r2,r3,r4,r5⟩:=HRV.o.pc;have wf:=HRV.o.warm;have hne:¬gq=w.heap.size+1:=HY.o.ne;have hne2:¬w.heap.size+1=gq:=λe=>hne e.symm;go_wp2_with fail
  try simp only[Exit.inBlock,Exit.then]
  refine bodyPost_ret (results_cell_row rfl _ _ (w.heap.size+1) 33 _ (0,0) _ rfl (zc9 HRV.o.heap _ _ _ _ _ _) Tryz.underlying33 rfl Tryz.info33) rfl ?_;refine⟨wl4 (.slice ao0 ns.length cp0) (.slice ao1 l.sc.length cp1) (.slice ao2 l.ar.length cp2) (.slice ao3 l.sy.length cp3) (.slice ao4 l.si.length cp4) (.slice ao5 l.so.length cp5),rfl,?_,HY.o.ap,zc8 (HY.o.ok.step HV.o) (Nat.le_succ _) _ _ _ _ _ _⟩;intro j hj;exact zb5 (za1 (HY.o.pr j hj) HV.o) (wp2 j hj) HRV.o _ _ _ _ _ _
end
section
open Go.RowKit
theorem wd9.sl{l:List Int}(h:wd9 w v l):SL w 1 v l.length (l.map λs=>nI s):=by
 obtain⟨_,ao,cap,rfl,h1⟩:=h;refine⟨by simp,by simp[Value.oneCell'],ao,cap,rfl,?_⟩;rcases h1 with rfl | ⟨b,o,rfl,hc⟩
 ·exact .inl rfl
 refine .inr ⟨b,o,rfl,hc.lt,λj u hj=>?_⟩;rw[List.getElem?_map]at hj
 cases e:l[j]? with
 | none=>rw[e]at hj;cases hj
 | some x =>
  rw[e]at hj;obtain⟨hl,e2⟩:=List.getElem?_eq_some_iff.1 e;rw[hc.c j hl,e2];exact hj
theorem wi5.sl{l:List ByteArray}(h:wi5 w v l):SL w 1 v l.length (l.map λs=>.string s):=by
 obtain⟨_,ao,cap,rfl,h1⟩:=h;refine⟨by simp,by simp[Value.oneCell'],ao,cap,rfl,?_⟩;rcases h1 with rfl | ⟨b,o,rfl,hc⟩
 ·exact .inl rfl
 refine .inr ⟨b,o,rfl,hc.lt,λj u hj=>?_⟩;rw[List.getElem?_map]at hj
 cases e:l[j]? with
 | none=>rw[e]at hj;cases hj
 | some x =>
  rw[e]at hj;obtain⟨hl,e2⟩:=List.getElem?_eq_some_iff.1 e;rw[hc.c j hl,e2];exact hj
theorem zN2(l:List (ByteArray×Int)):(l.flatMap λa=>[Value.string a.1,nI a.2]).length=l.length*2:=by
 induction l with
 | nil=>rfl
 | cons a l ih=>rw[List.flatMap_cons,List.length_append,ih,List.length_cons];simp;omega
theorem yt9{o:Nat}{l:List (ByteArray×Int)}(hc:wj2 w b o l)(j:Nat)(u:Value)(hj:(l.flatMap λa=>[Value.string a.1,nI a.2])[j]?=some u):w.cell? ⟨b,o+j,none⟩=some u:=by
 have hlt:j<l.length*2:=by have:=(List.getElem?_eq_some_iff.1 hj).1;rw[zN2]at this;exact this
 have hi:j/2<l.length:=oM;have ha:=zq1 (gG_ hi);rcases(show j=j/2*2\/j=j/2*2+1 by omega) with e | e
 ·rw[e]at hj ⊢
  rw[ha.1]at hj;rw[hc.c _ hi];exact hj
 rw[e]at hj ⊢;rw[ha.2]at hj;rw[<-Nat.add_assoc,hc.d _ hi];exact hj
theorem wi7.sl{l:List (ByteArray×Int)}(h:wi7 w v l):SL w 2 v l.length (l.flatMap λa=>[.string a.1,nI a.2]):=by
 obtain⟨_,ao,cap,rfl,h1⟩:=h;refine⟨zN2 l,?_,ao,cap,rfl,?_⟩
 ·intro u hu
  rw[List.mem_flatMap]at hu;obtain⟨a,_,hu⟩:=hu;simp at hu
  rcases hu with rfl | rfl<;>rfl
 rcases h1 with rfl | ⟨b,o,rfl,hc⟩
 ·exact .inl rfl
 exact .inr ⟨b,o,rfl,hc.lt,yt9 hc⟩
theorem yu0{o:Nat}(hc:AV w b o ns)(j:Nat)(u:Value)(hj:(ndL ns)[j]?=some u):w.cell? ⟨b,o+j,none⟩=some u:=by
 have hlt:j<ns.length*6:=by have:=(List.getElem?_eq_some_iff.1 hj).1;rw[zu2]at this;exact this
 have hi:j/6<ns.length:=oM;obtain⟨a0,a1,a2,a3,a4,a5⟩:=zg3 (gG_ hi);rcases(show j=j/6*6\/j=j/6*6+1\/j=j/6*6+2\/j=j/6*6+3\/j=j/6*6+4\/j=j/6*6+5 by omega) with e | e | e | e | e | e
 ·rw[e]at hj ⊢;rw[a0]at hj;rw[hc.c0 _ hi];exact hj
 ·rw[e]at hj ⊢;rw[a1]at hj;rw[<-Nat.add_assoc,hc.c1 _ hi];exact hj
 ·rw[e]at hj ⊢;rw[a2]at hj;rw[<-Nat.add_assoc,hc.c2 _ hi];exact hj
 ·rw[e]at hj ⊢;rw[a3]at hj;rw[<-Nat.add_assoc,hc.c3 _ hi];exact hj
 ·rw[e]at hj ⊢;rw[a4]at hj;rw[<-Nat.add_assoc,hc.c4 _ hi];exact hj
 rw[e]at hj ⊢;rw[a5]at hj;rw[<-Nat.add_assoc,hc.c5 _ hi];exact hj
theorem DD.sl(h:DD w v ns):SL w 6 v ns.length (ndL ns):=by
 obtain⟨_,ao,cap,rfl,_,_,h1⟩:=h;refine⟨zu2 ns,zu3 ns,ao,cap,rfl,?_⟩;rcases h1 with rfl | ⟨b,o,rfl,hc⟩
 ·exact .inl rfl
 exact .inr ⟨b,o,rfl,hc.lt,yu0 hc⟩
theorem BO.pl6{v0 v1 v2 v3 v4 v5:Value}{l:Ls}(h:BO w v0 v1 v2 v3 v4 v5 ns l):PL6 w v0 v1 v2 v3 v4 v5 ns l:=⟨h.nodes.sl,h.lists.sc.sl,h.lists.ar.sl,h.lists.sy.sl,h.lists.si.sl,h.lists.so.sl⟩
end
section
open Go.RowKit
theorem yu1{n:Nd}(h:EG n=true):n.name.size<=16:=by
 unfold EG wh4 at h;simp only[Bool.and_eq_true]at h;have h1:=h.2.1;rw[<-zc2]
 split at h1
 ·unfold CL at h1
  simp only[Bool.and_eq_true,decide_eq_true_eq]at h1;omega
 have:n.name.toList=[]:=by simpa using h1
 rw[this];simp
theorem zv2(ns:List Nd):∀(t:List Nd) (i:Nat) (l:Ls),(∀s∈(AS ns t i l).2.2.sc,s∈l.sc\/∃n∈t,s=n.name)/\(∀a∈(AS ns t i l).2.2.ar,a∈l.ar\/∃n∈t,a.1=n.name)
 | [],i,l=>⟨λs hs=>.inl hs,λa ha=>.inl ha⟩
 | n::t,i,l=>by
  rw[AS]
  split
  ·obtain⟨h1,h2⟩:=zv2 ns t (i+1) (BE ns i n l)
   refine⟨λs hs=>?_,λa ha=>?_⟩
   ·rcases h1 s hs with h | ⟨m,hm,e⟩
    ·unfold BE at h
     simp only at h
     split at h
     ·rw[List.mem_append,List.mem_singleton]at h
      rcases h with h | h
      ·exact .inl h
      exact .inr ⟨n,List.mem_cons_self,h⟩
     exact .inl h
    exact .inr ⟨m,List.mem_cons_of_mem _ hm,e⟩
   rcases h2 a ha with h | ⟨m,hm,e⟩
   ·unfold BE at h
    simp only at h
    split at h
    ·rw[List.mem_append,List.mem_singleton]at h
     rcases h with h | h
     ·exact .inl h
     exact .inr ⟨n,List.mem_cons_self,by rw[h]⟩
    exact .inl h
   exact .inr ⟨m,List.mem_cons_of_mem _ hm,e⟩
  exact⟨λs hs=>.inl hs,λa ha=>.inl ha⟩
theorem yC3(hok:∀n∈ns,n.Ok)(h0:(AR ns rd0).1=0)(h:BV w b (AR ns rd0).2.2):Bd6 ns (BS (AR ns rd0).2.2):=by
 have hs:(BD ns).1=0:=by
  by_cases c:(BD ns).1=0
  ·exact c
  unfold AR at h0;rw[if_neg c]at h0;exact absurd h0 c
 have hf:∀n∈ns,n.name.size<=16:=by intro n hn;obtain⟨i,hi,e⟩:=List.mem_iff_getElem.1 hn;rw[<-e];exact yu1 ((zP0 hs).fit i hi)
 have hl:=zj1 ns h0;have h5:=h.rest.len;have h1:=h.names.sl;have h2:=h.names.al;have h3:=h.rest.sites;have hp:=zw4 ns hok
 have hq:BS (AR ns rd0).2.2=(AS ns ns 0 ⟨[],[],[],[],[]⟩).2.2:=by
  have e:(AC ns).2.2=BS (AR ns rd0).2.2:=by rw[hp]
  rw[<-e];unfold AC;rw[if_pos (by rw[zz0 ns hok];exact hs)]
 obtain⟨k1,k2⟩:=zv2 ns ns 0 ⟨[],[],[],[],[]⟩;refine⟨by omega,by simp only[BS];omega,by simp only[BS,List.length_map];omega,by simp only[BS];omega,by simp only[BS,List.length_map];omega,by simp only[BS];omega,λn hn=>by have:=hf n hn;omega,λs hs'=>?_,λa ha=>?_⟩
 ·rw[hq]at hs'
  rcases k1 s hs' with h' | ⟨n,hn,e⟩
  ·cases h'
  rw[e];have:=hf n hn;omega
 rw[hq]at ha;rcases k2 a ha with h' | ⟨n,hn,e⟩
 ·cases h'
 rw[e];have:=hf n hn;omega
theorem zN3(v:Value)(ns:List Nd)(w:World)(hR:BF w)(hN:DD w v ns)(h0:(AR ns rd0).1=0) :
  Calls Tryz.prog 52 #[v] w λe w'=>∃(u:Nat->Value) (er:Value),e=.returned (.tuple #[.agg #[u 0,u 1,u 2,u 3,u 4,u 5],er])/\BZ w' w.heap.size u ns (BS (AR ns rd0).2.2)/\Ap u/\Ok w w':=by
 obtain⟨w0,hw0⟩:=qq ((w.alloc (Obj.cells #[sZ,sZ,sZ,sZ,sZ,sZ] 33)).alloc (.cells Tryz.zeroCells173 173));have HB0:Hi (Ok w w0):=by rw[hw0];exact((Ok.refl w).alloc _).alloc _
 have HX0:Hi (Six w0 w.heap.size (sZ) (sZ) (sZ) (sZ) (sZ) (sZ)):=by rw[hw0];exact(Six.new w _ _ _ _ _ _).below ((Ok.refl _).alloc _)
 have HD0:Hi (BV w0 (w.heap.size+1) rd0):=by have:=zO6 (w.alloc (Obj.cells #[sZ,sZ,sZ,sZ,sZ,sZ] 33));rw[show(w.alloc (Obj.cells #[sZ,sZ,sZ,sZ,sZ,sZ] 33)).heap.size=w.heap.size+1 from by simp]at this;unfold Hi;rw[hw0];exact this
 have HZ0:Hi (w0.heap.size=w.heap.size+2):=by unfold Hi;rw[hw0];simp
 have HOK:=hid hN.1;have HN0:=hid hN
 have HRC:Hi (∀_:Unit,Calls Tryz.prog 87 #[.pointer (some ⟨w.heap.size+1,0,none⟩),v] w0 λe w'=>e=.returned (.tuple #[nI (AR ns rd0).1,nI (AR ns rd0).2.1])/\AD (w.heap.size+1) w0 w'/\((AR ns rd0).1=0->BV w' (w.heap.size+1) (AR ns rd0).2.2)):=λ_=>zO8 (w.heap.size+1) v ns w0 (hR.below HB0.o) (hN.below HB0.o) (λg hg=>by omega) (λnb o cap e hne=>by
   obtain⟨_,ao,cap',e',_,_,k⟩:=hN;obtain⟨b,o',rfl,hn⟩:=k.resolve_left hne;have hlt:=hn.lt;rw[e]at e'
   injection e' with e1 e2 e3
   injection e1 with e4
   injection e4 with e5
   omega) HD0.o
 obtain⟨_,ao,cap,rfl,_⟩:=hN;obtain⟨⟨code,at_,rr⟩,hq⟩:∃q,q=AR ns rd0:=⟨_,rfl⟩;have HBD:Hi (∀{w':World},BV w' (w.heap.size+1) rr->Bd6 ns (BS rr)):=λ{w'} h=>by have:=yC3 HOK.o h0 (w:=w') (b:=w.heap.size+1) (by rw[<-hq];exact h);rw[<-hq]at this;exact this
 have HLN:Hi (rr.sy.length=ns.length/\ns.length<=300):=by have:=zj1 ns h0;rw[<-hq]at this;exact this
 rw[<-hq]at HRC h0 ⊢;have hc:code=0:=h0;subst hc;clear hR hq h0;go_enter Tryz.func52,Tryz.ntmps52;go_wp2_with fail;rw[<-hw0];clear hw0;refine mq (HRC.o ()) λw1 ⟨hs1,hr1⟩=>?_;have HB1:Hi (Ok w w1):=hs1.below HB0.o oM (by have:=HZ0.o;omega);have HX1:Hi (Six w1 w.heap.size (sZ) (sZ) (sZ) (sZ) (sZ) (sZ)):=⟨(hs1.block w.heap.size oM HX0.o.lt).trans HX0.o.heap⟩;have HD1:Hi (BV w1 (w.heap.size+1) rr):=(by first | exact hr1 rfl | exact hr1 trivial);have HG1:=hid HD1.o.names.lt;clear hs1 hr1 HRC;go_wp2_with fail;refine mq (zO5 (w.heap.size+1) ns.length cap ao rr w1 HD1.o HLN.o.2) λw2 hk2=>?_;have HB2:=hid (HB1.o.step hk2);have HX2:=hid (HX1.o.below hk2);have HD2:=hid (HD1.o.below hk2);clear hk2;go_wp2_with fail;refine(yj9 _ _ _ _ _ _ ns (BS rr) w2 (BO.pl6 ⟨HN0.o.below HB2.o,zY0 HD2.o HLN.o.1⟩) (HBD.o HD2.o)).mono ?_;rintro e w3 ⟨u,rfl,hu,hap,hk3⟩;have HAP:=hid hap;have HB3:=hid (HB2.o.step hk3);have HX3:=hid (HX2.o.below hk3);have HU:=hid hu;have HLE:=hid HB2.o.le;clear hu hk3 hap;obtain⟨o0,p0,e0⟩:=za0 (HU.o 0 dC);obtain⟨o1,p1,e1⟩:=za0 (HU.o 1 dC);obtain⟨o2,p2,e2⟩:=za0 (HU.o 2 dC);obtain⟨o3,p3,e3⟩:=za0 (HU.o 3 dC);obtain⟨o4,p4,e4⟩:=za0 (HU.o 4 dC);obtain⟨o5,p5,e5⟩:=za0 (HU.o 5 dC);have HE:Hi (u 0=_/\u 1=_/\u 2=_/\u 3=_/\u 4=_/\u 5=_):=⟨e0,e1,e2,e3,e4,e5⟩;rw[e0,e1,e2,e3,e4,e5];clear e0 e1 e2 e3 e4 e5;obtain⟨z1,c0,c1,c2,c3,c4,c5⟩:=HX3.o.pc;have wf:=HX3.o.warm;go_wp2_with fail
 try simp only[Exit.inBlock,Exit.then]
 refine bodyPost_ret (zc0 rfl _ _ w.heap.size 33 _ (0,0) _ rfl (zc9 HX3.o.heap _ _ _ _ _ _) Tryz.underlying33 rfl Tryz.info33) rfl ?_;refine⟨u,.nilIface,?_,?_,HAP.o,zc8 HB3.o (nR_ _) _ _ _ _ _ _⟩
 ·obtain⟨e0,e1,e2,e3,e4,e5⟩:=HE.o
  rw[e0,e1,e2,e3,e4,e5];rfl
 intro j hj;exact za7 (zb5 (HU.o j hj) (wp2 j hj) HX3.o _ _ _ _ _ _) HLE.o
end
end Go.Proofs.YtpongdpnbclchaaGreatDoor
