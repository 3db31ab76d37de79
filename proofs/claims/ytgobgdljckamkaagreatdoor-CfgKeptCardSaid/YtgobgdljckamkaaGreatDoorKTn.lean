import Derived.Test.YtgobgdljckamkaaGreatDoorKTi
set_option linter.unusedVariables false
set_option linter.unusedSimpArgs false
set_option linter.unnecessarySimpa false
namespace Go.Proofs.YtgobgdljckamkaaGreatDoor
open Go.RowKit
theorem zo9 {k:Nat} (hk:k<1000000000000000):IntKind.i64.wrap ((k:Int)+1)=((k+1:Nat):Int):=zd5 (by omega) (by omega)
set_option maxRecDepth 100000 in
set_option maxHeartbeats 8000000 in
theorem yl6 (v0 v1 v2 v3 v4 v5:Value) (ns:List Nd) (l:Ls) (g d:Nat→Nat) (w:World) (hc:CpIs w 0 g d ns l) (h:ProgIs w v0 v1 v2 v3 v4 v5 ns l) (hok:∀ n∈ns,n.Ok) (hb:ns.length*56≤140737488351232∧l.sc.length*16≤140737488351232∧l.ar.length*24≤140737488351232∧l.sy.length*8≤140737488351232∧l.si.length*8≤140737488351232∧l.so.length*8≤140737488351232) :
  Calls Tryz.prog 14 #[.agg #[cpV ns l g d 0,cpV ns l g d 1,cpV ns l g d 2,cpV ns l g d 3,cpV ns l g d 4,cpV ns l g d 5],.agg #[v0,v1,v2,v3,v4,v5]] w fun e w'=>e=.returned (.bool true)∧Ok w w':=by
 have HP:=hid h
 have HQ:=hid (hc.pr.prog hok)
 have HCW:Hid (∀ W,Ok w W→∀ k,k<6→∀ j u,(xOf ns ns.length l k++mkOf k)[j]?=some u→W.cell? ⟨g k,j,none⟩=some u):=fun W hW k hk j u hj=>by
  have:=(za1 (hc.row k hk) hW).cells (g:=g k) rfl j u hj
  rw [zc0,Nat.zero_add] at this
  exact this
 have HRM:Hid (∀ k,k<6→nOf ns.length l k+1≤d k∧d k≤maxLen):=fun k hk=>zi6 (hc.row k hk)
 have HLT:Hid (∀ W,Ok w W→∀ k,k<6→g k<W.heap.size):=fun W hW k hk=>Nat.lt_of_lt_of_le ((hc.row k hk).lt (g k) rfl).2 hW.le
 have HXL:Hid (∀ k,k<6→(xOf ns ns.length l k).length=nOf ns.length l k*SZ k):=fun k hk=>zE9 ns l k hk
 obtain ⟨_,x0,y0,rfl,_⟩:=h.nodes
 obtain ⟨_,_,x1,y1,rfl,_⟩:=h.lists.sc.sl
 obtain ⟨_,_,x2,y2,rfl,_⟩:=h.lists.ar.sl
 obtain ⟨_,_,x3,y3,rfl,_⟩:=h.lists.sy.sl
 obtain ⟨_,_,x4,y4,rfl,_⟩:=h.lists.si.sl
 obtain ⟨_,_,x5,y5,rfl,_⟩:=h.lists.so.sl
 unfold cpV at HQ ⊢
 have hn0:nOf ns.length l 0=ns.length:=rfl
 have hn1:nOf ns.length l 1=l.sc.length:=rfl
 have hn2:nOf ns.length l 2=l.ar.length:=rfl
 have hn3:nOf ns.length l 3=l.sy.length:=rfl
 have hn4:nOf ns.length l 4=l.si.length:=rfl
 have hn5:nOf ns.length l 5=l.so.length:=rfl
 rw [hn0,hn1,hn2,hn3,hn4,hn5] at HQ ⊢
 obtain ⟨n0,hm0⟩:∃ x,x=ns.length:=⟨_,rfl⟩
 obtain ⟨g0,hg0⟩:∃ x,x=g 0:=⟨_,rfl⟩
 obtain ⟨d0,hd0⟩:∃ x,x=d 0:=⟨_,rfl⟩
 obtain ⟨n1,hm1⟩:∃ x,x=l.sc.length:=⟨_,rfl⟩
 obtain ⟨g1,hg1⟩:∃ x,x=g 1:=⟨_,rfl⟩
 obtain ⟨d1,hd1⟩:∃ x,x=d 1:=⟨_,rfl⟩
 obtain ⟨n2,hm2⟩:∃ x,x=l.ar.length:=⟨_,rfl⟩
 obtain ⟨g2,hg2⟩:∃ x,x=g 2:=⟨_,rfl⟩
 obtain ⟨d2,hd2⟩:∃ x,x=d 2:=⟨_,rfl⟩
 obtain ⟨n3,hm3⟩:∃ x,x=l.sy.length:=⟨_,rfl⟩
 obtain ⟨g3,hg3⟩:∃ x,x=g 3:=⟨_,rfl⟩
 obtain ⟨d3,hd3⟩:∃ x,x=d 3:=⟨_,rfl⟩
 obtain ⟨n4,hm4⟩:∃ x,x=l.si.length:=⟨_,rfl⟩
 obtain ⟨g4,hg4⟩:∃ x,x=g 4:=⟨_,rfl⟩
 obtain ⟨d4,hd4⟩:∃ x,x=d 4:=⟨_,rfl⟩
 obtain ⟨n5,hm5⟩:∃ x,x=l.so.length:=⟨_,rfl⟩
 obtain ⟨g5,hg5⟩:∃ x,x=g 5:=⟨_,rfl⟩
 obtain ⟨d5,hd5⟩:∃ x,x=d 5:=⟨_,rfl⟩
 have HNB:Hid (n0*56≤140737488351232∧n1*16≤140737488351232∧n2*24≤140737488351232∧n3*8≤140737488351232∧n4*8≤140737488351232∧n5*8≤140737488351232):=by unfold Hid;omega
 have hr0:n0+1≤d0:=by have:=(HRM.out 0 (by decide)).1;rw [hn0] at this;omega
 have hr1:n1+1≤d1:=by have:=(HRM.out 1 (by decide)).1;rw [hn1] at this;omega
 have hr2:n2+1≤d2:=by have:=(HRM.out 2 (by decide)).1;rw [hn2] at this;omega
 have hr3:n3+1≤d3:=by have:=(HRM.out 3 (by decide)).1;rw [hn3] at this;omega
 have hr4:n4+1≤d4:=by have:=(HRM.out 4 (by decide)).1;rw [hn4] at this;omega
 have hr5:n5+1≤d5:=by have:=(HRM.out 5 (by decide)).1;rw [hn5] at this;omega
 have HCC:Hid (∀ W,Ok w W→W.cell? ⟨g0,n0*6,none⟩=some (.int .i64 (-7))∧W.cell? ⟨g1,n1,none⟩=some (.string ⟨#[114,111,111,109]⟩)∧W.cell? ⟨g2,n2*2+1,none⟩=some (.int .i64 (-7))∧W.cell? ⟨g3,n3,none⟩=some (.int .i64 (-7))∧W.cell? ⟨g4,n4,none⟩=some (.int .i64 (-7))∧W.cell? ⟨g5,n5,none⟩=some (.int .i64 (-7))∧g0<W.heap.size∧g1<W.heap.size∧g2<W.heap.size∧g3<W.heap.size∧g4<W.heap.size∧g5<W.heap.size):=fun W hW=>by
  refine ⟨?_,?_,?_,?_,?_,?_,by rw [hg0];exact HLT.out W hW 0 (by decide),by rw [hg1];exact HLT.out W hW 1 (by decide),by rw [hg2];exact HLT.out W hW 2 (by decide),by rw [hg3];exact HLT.out W hW 3 (by decide),by rw [hg4];exact HLT.out W hW 4 (by decide),by rw [hg5];exact HLT.out W hW 5 (by decide)⟩
  ·have hx:=HXL.out 0 (by decide)
   rw [hg0]
   refine HCW.out W hW 0 (by decide) _ _ ?_
   rw [List.getElem?_append_right (by rw [hx,hn0];simp [SZ];omega),hx,hn0,←hm0]
   simp [SZ,mkOf]
  ·have hx:=HXL.out 1 (by decide)
   rw [hg1]
   refine HCW.out W hW 1 (by decide) _ _ ?_
   rw [List.getElem?_append_right (by rw [hx,hn1];simp [SZ];omega),hx,hn1,←hm1]
   simp [SZ,mkOf]
  ·have hx:=HXL.out 2 (by decide)
   rw [hg2]
   refine HCW.out W hW 2 (by decide) _ _ ?_
   rw [List.getElem?_append_right (by rw [hx,hn2];simp [SZ];omega),hx,hn2,←hm2]
   simp [SZ,mkOf]
  ·have hx:=HXL.out 3 (by decide)
   rw [hg3]
   refine HCW.out W hW 3 (by decide) _ _ ?_
   rw [List.getElem?_append_right (by rw [hx,hn3];simp [SZ];omega),hx,hn3,←hm3]
   simp [SZ,mkOf]
  ·have hx:=HXL.out 4 (by decide)
   rw [hg4]
   refine HCW.out W hW 4 (by decide) _ _ ?_
   rw [List.getElem?_append_right (by rw [hx,hn4];simp [SZ];omega),hx,hn4,←hm4]
   simp [SZ,mkOf]
  ·have hx:=HXL.out 5 (by decide)
   rw [hg5]
   refine HCW.out W hW 5 (by decide) _ _ ?_
   rw [List.getElem?_append_right (by rw [hx,hn5];simp [SZ];omega),hx,hn5,←hm5]
   simp [SZ,mkOf]
 rw [←hm0,←hm1,←hm2,←hm3,←hm4,←hm5] at HP HQ ⊢
 rw [←hg0,←hg1,←hg2,←hg3,←hg4,←hg5,←hd0,←hd1,←hd2,←hd3,←hd4,←hd5] at HQ ⊢
 clear hn0 hn1 hn2 hn3 hn4 hn5 hm0 hm1 hm2 hm3 hm4 hm5 hg0 hg1 hg2 hg3 hg4 hg5 hd0 hd1 hd2 hd3 hd4 hd5 hc h hb hok HCW HRM HLT HXL
 have hw0:IntKind.i64.wrap ((n0:Int)+1)=((n0+1:Nat):Int):=zo9 (by have:=HNB.out;omega)
 have hi0:(n0:Int)+1≤(d0:Int):=by omega
 have hj0:(n0:Int)<(n0:Int)+1:=by omega
 have hw1:IntKind.i64.wrap ((n1:Int)+1)=((n1+1:Nat):Int):=zo9 (by have:=HNB.out;omega)
 have hi1:(n1:Int)+1≤(d1:Int):=by omega
 have hj1:(n1:Int)<(n1:Int)+1:=by omega
 have hw2:IntKind.i64.wrap ((n2:Int)+1)=((n2+1:Nat):Int):=zo9 (by have:=HNB.out;omega)
 have hi2:(n2:Int)+1≤(d2:Int):=by omega
 have hj2:(n2:Int)<(n2:Int)+1:=by omega
 have hw3:IntKind.i64.wrap ((n3:Int)+1)=((n3+1:Nat):Int):=zo9 (by have:=HNB.out;omega)
 have hi3:(n3:Int)+1≤(d3:Int):=by omega
 have hj3:(n3:Int)<(n3:Int)+1:=by omega
 have hw4:IntKind.i64.wrap ((n4:Int)+1)=((n4+1:Nat):Int):=zo9 (by have:=HNB.out;omega)
 have hi4:(n4:Int)+1≤(d4:Int):=by omega
 have hj4:(n4:Int)<(n4:Int)+1:=by omega
 have hw5:IntKind.i64.wrap ((n5:Int)+1)=((n5+1:Nat):Int):=zo9 (by have:=HNB.out;omega)
 have hi5:(n5:Int)+1≤(d5:Int):=by omega
 have hj5:(n5:Int)<(n5:Int)+1:=by omega
 go_enter Tryz.func14,Tryz.ntmps14
 go_wp2_with fail
 obtain ⟨w0,hw0⟩:∃ x,x=(w.alloc (Obj.cells #[Value.slice (some ⟨g0,0,none⟩) n0 d0,Value.slice (some ⟨g1,0,none⟩) n1 d1,Value.slice (some ⟨g2,0,none⟩) n2 d2,Value.slice (some ⟨g3,0,none⟩) n3 d3,Value.slice (some ⟨g4,0,none⟩) n4 d4,Value.slice (some ⟨g5,0,none⟩) n5 d5] 27)).alloc (Obj.cells #[Value.slice x0 n0 y0,Value.slice x1 n1 y1,Value.slice x2 n2 y2,Value.slice x3 n3 y3,Value.slice x4 n4 y4,Value.slice x5 n5 y5] 27):=⟨_,rfl⟩
 obtain ⟨b1,hb1⟩:∃ x,x=w.heap.size+1:=⟨_,rfl⟩
 obtain ⟨b0,hb0⟩:∃ x,x=w.heap.size:=⟨_,rfl⟩
 rw [←hw0,←hb1,←hb0]
 have HK0:Hid (Ok w w0):=by unfold Hid;rw [hw0];exact ((Ok.refl w).alloc _).alloc _
 have HX0:Hid (Six w0 b0 (.slice (some ⟨g0,0,none⟩) n0 d0) (.slice (some ⟨g1,0,none⟩) n1 d1) (.slice (some ⟨g2,0,none⟩) n2 d2) (.slice (some ⟨g3,0,none⟩) n3 d3) (.slice (some ⟨g4,0,none⟩) n4 d4) (.slice (some ⟨g5,0,none⟩) n5 d5)):=by unfold Hid;rw [hw0,hb0];exact (Six.new w _ _ _ _ _ _).below ((Ok.refl _).alloc _)
 clear hw0 hb1 hb0
 refine (zr8 _ _ _ _ _ _ _ _ _ _ _ _ ns l l w0 (HQ.out.below HK0.out) (HP.out.below HK0.out)).mono ?_
 rintro e w1 ⟨rfl,hk1⟩
 rw [zt1]
 have HK1:=hid (HK0.out.step hk1)
 have HX1:=hid (HX0.out.below hk1)
 clear hk1
 obtain ⟨z1,c0,c1,c2,c3,c4,c5⟩:=HX1.out.pc
 obtain ⟨e0,e1,e2,e3,e4,e5,l0,l1,l2,l3,l4,l5⟩:=HCC.out w1 HK1.out
 go_wp2_with fail
 go_quiet (fail)
 go_wp2_with fail
 go_ret
 exact ⟨rfl,HK1.out.draws _⟩
end Go.Proofs.YtgobgdljckamkaaGreatDoor
