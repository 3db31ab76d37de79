import Derived.Test.YtnjmjnmhldhaoaaGreatKJcg
import Derived.Test.YtnjmjnmhldhaoaaGreatKNu
set_option maxHeartbeats 8000000
set_option linter.all false
namespace Go.Proofs.YtnjmjnmhldhaoaaGreat
section
open Go.RowKit
theorem pleast_any (w0 w:World) (hok:Ok w0 w) :
  Calls Tryz.prog 238 #[] w fun e w'=>e=.returned (.agg #[.int .i64 (-9223372036854775808),.int .i64 (-9223372036854775808)])/\Ok w0 w':=by
 go_enter Tryz.func238,Tryz.ntmps238
 go_wp2_with (first | (go_at_call 240;refine (pupto_ex _ _).mono ?_;rintro e w' ⟨rfl,rfl⟩) | fail)
 (try simp only [Exit.inBlock, Exit.then]); refine bodyPost_ret (results_cell_row rfl _ _ (w.heap.size) 24 #[_, _] (0, 0) _ rfl jj Tryz.underlying24 rfl infoI) rfl ?_
 exact ⟨rfl,(by repeat (first | exact hok | refine Ok.alloc ?_ _ | refine Ok.draws ?_ _ | fail))⟩
theorem pbutleast_any (w0 w:World) (hok:Ok w0 w) :
  Calls Tryz.prog 239 #[] w fun e w'=>e=.returned (.agg #[.int .i64 (-9223372036854775807),.int .i64 9223372036854775807])/\Ok w0 w':=by
 go_enter Tryz.func239,Tryz.ntmps239
 go_wp2_with (first | (go_at_call 242;refine (pfrom_ex _ _).mono ?_;rintro e w' ⟨rfl,rfl⟩) | fail)
 (try simp only [Exit.inBlock, Exit.then]); refine bodyPost_ret (results_cell_row rfl _ _ (w.heap.size) 24 #[_, _] (0, 0) _ rfl jj Tryz.underlying24 rfl infoI) rfl ?_
 exact ⟨rfl,(by repeat (first | exact hok | refine Ok.alloc ?_ _ | refine Ok.draws ?_ _ | fail))⟩
theorem pminusone_any (w0 w:World) (hok:Ok w0 w) :
  Calls Tryz.prog 241 #[] w fun e w'=>e=.returned (.agg #[.int .i64 (-1),.int .i64 (-1)])/\Ok w0 w':=by
 go_enter Tryz.func241,Tryz.ntmps241
 go_wp2_with fail
 (try simp only [Exit.inBlock, Exit.then]); refine bodyPost_ret (results_cell_row rfl _ _ (w.heap.size) 24 #[_, _] (0, 0) _ rfl jj Tryz.underlying24 rfl infoI) rfl ?_
 exact ⟨rfl,(by repeat (first | exact hok | refine Ok.alloc ?_ _ | refine Ok.draws ?_ _ | fail))⟩
theorem pupto_any (v:Int) (w0 w:World) (hok:Ok w0 w) :
  Calls Tryz.prog 240 #[.int .i64 v] w fun e w'=>e=.returned (.agg #[.int .i64 (-9223372036854775808),.int .i64 v])/\Ok w0 w':=by
 refine (pupto_ex v w).mono ?_
 rintro e w' ⟨rfl,rfl⟩
 exact ⟨rfl,hok.alloc _⟩
theorem pfrom_any (v:Int) (w0 w:World) (hok:Ok w0 w) :
  Calls Tryz.prog 242 #[.int .i64 v] w fun e w'=>e=.returned (.agg #[.int .i64 v,.int .i64 9223372036854775807])/\Ok w0 w':=by
 refine (pfrom_ex v w).mono ?_
 rintro e w' ⟨rfl,rfl⟩
 exact ⟨rfl,hok.alloc _⟩
theorem pwithin_is (al ah bl bh l h:Int) (e:meetI al ah bl bh=(l,h)) (w0 w:World) (hok:Ok w0 w) :
  Calls Tryz.prog 237 #[.agg #[.int .i64 al,.int .i64 ah],.agg #[.int .i64 bl,.int .i64 bh]] w fun e w'=>e=.returned (.agg #[.int .i64 l,.int .i64 h])/\Ok w0 w':=by
 have H:=pwithin_any al ah bl bh w0 w hok
 rw [e] at H
 exact H
theorem pisnone_o (l h:Int) (w0 w:World) (hok:Ok w0 w) :
  Calls Tryz.prog 199 #[.agg #[.int .i64 l,.int .i64 h]] w fun e w'=>e=.returned (.bool (decide (h<l)))/\Ok w0 w':=by
 refine (pisnone_ex l h w).mono ?_
 rintro e w' ⟨rfl,rfl⟩
 exact ⟨rfl,hok.alloc _⟩
def sel2 (a b:Int):Nat->Int
 | 0=>a
 | _=>b
def sel3 (a b c:Int):Nat->Int
 | 0=>a
 | 1=>b
 | _=>c
theorem idxX (a b c d:Int) (k:Nat) (hk:k<2) (w:World):(Instr.index 193 (.agg #[.int .i64 a,.int .i64 b,.int .i64 c,.int .i64 d]) (.int .i64 (k:Int))).run Tryz.prog w=.ok (.agg #[.int .i64 (sel2 a c k),.int .i64 (sel2 b d k)]) w:=by
 obtain rfl | rfl:k=0\/k=1:=by omega
 ·kernel_rfl
 ·kernel_rfl
theorem idxY (a b c d e f:Int) (k:Nat) (hk:k<3) (w:World):(Instr.index 195 (.agg #[.int .i64 a,.int .i64 b,.int .i64 c,.int .i64 d,.int .i64 e,.int .i64 f]) (.int .i64 (k:Int))).run Tryz.prog w=.ok (.agg #[.int .i64 (sel3 a c e k),.int .i64 (sel3 b d f k)]) w:=by
 obtain rfl | rfl | rfl:k=0\/k=1\/k=2:=by omega
 ·kernel_rfl
 ·kernel_rfl
 ·kernel_rfl
def stD (x1 x2 y1 y2:Int) (s:(Int×Int)×Bool):(Int×Int)×Bool :=
 if x2<x1\/y2<y1 then s else (joinI s.1.1 s.1.2 (hullW (cL Int.tdiv x1 x2 y1 y2 4) (cH Int.tdiv x1 x2 y1 y2 4)).1 (hullW (cL Int.tdiv x1 x2 y1 y2 4) (cH Int.tdiv x1 x2 y1 y2 4)).2,s.2&&exW (cL Int.tdiv x1 x2 y1 y2 4) (cH Int.tdiv x1 x2 y1 y2 4))
def rowD (l h:Int):Obj:=.cells #[.int .i64 l,.int .i64 h] 24
def DvInv (w wr:World) (g8:Nat) (O:Int×Int):Prop:=Ok w wr/\wr.heap[w.heap.size+2]?=some (rowD 0 0)/\wr.heap[g8]?=some (rowD O.1 O.2)/\w.heap.size+2<g8
theorem DvInv.ok {w wr w1:World} {g8:Nat} {O:Int×Int} (h:DvInv w wr g8 O) (hb:Ok wr w1):DvInv w w1 g8 O:=⟨h.1.step hb,Ok.row' hb h.2.1,Ok.row' hb h.2.2.1,h.2.2.2⟩
theorem DvInv.set {w wr:World} {g8:Nat} {O:Int×Int} (h:DvInv w wr g8 O) (l k:Int):DvInv w ((wr.setCell ⟨g8,0,none⟩ (.int .i64 l)).setCell ⟨g8,1,none⟩ (.int .i64 k)) g8 (l,k):=by
 obtain ⟨h1,h2,h3,h4⟩:=h
 refine ⟨(h1.set (show w.heap.size<=g8 by omega) _).set (show w.heap.size<=g8 by omega) _,?_,row_set2 h3 _ _,h4⟩
 rw [heap_setCell_other _ _ _ _ (show w.heap.size+2≠g8 by omega),heap_setCell_other _ _ _ _ (show w.heap.size+2≠g8 by omega)]
 exact h2
theorem op_quo {al ah bl bh:Int} (ha1:In64 al) (ha2:In64 ah) (hb1:bl≠0) (hb2:bh≠0):OpAt 243 al ah bl bh Int.tdiv:=by
 intro x y hx hy w0 w hok
 exact pquo_any x y (by rcases hx with rfl | rfl<;>assumption) (by rcases hy with rfl | rfl<;>assumption) w0 w hok
end
section
open Go.RowKit
theorem pthi_q (W:Int->Int->Int) (al ah bl bh L H:Int) (bf:Nat) (w:World) (hop:OpAt 243 al ah bl bh W) (hbf:w.heap[bf]?=some (.cells #[.func (.func 243) #[] #[]] 183 (0,0))) (h:cL W al ah bl bh 4=L/\cH W al ah bl bh 4=H) :
  Calls Tryz.prog 253 #[.agg #[.int .i64 al,.int .i64 ah],.agg #[.int .i64 bl,.int .i64 bh],.pointer (some ⟨bf,0,none⟩)] w fun e w'=>e=.returned (.agg #[.int .i64 (tW L),.int .i64 (wrap64 L),.int .i64 (tW H),.int .i64 (wrap64 H)])/\Ok w w':=by
 rw [<-h.1,<-h.2];exact pthr 243 (fun _ _ _=>by kernel_rfl) W al ah bl bh bf w hop hbf
def dvF (X01 X02 X11 X12 Y01 Y02 Y11 Y12 Y21 Y22:Int):Nat->(Int×Int)×Bool
 | 0=>((1,0),true)
 | m+1=>stD (sel2 X01 X11 (m/3)) (sel2 X02 X12 (m/3)) (sel3 Y01 Y11 Y21 (m%3)) (sel3 Y02 Y12 Y22 (m%3)) (dvF X01 X02 X11 X12 Y01 Y02 Y11 Y12 Y21 Y22 m)
def DvFacts (X01 X02 X11 X12 Y01 Y02 Y11 Y12 Y21 Y22:Int):Prop :=
 (∀ k,In64 (sel2 X01 X11 k)/\In64 (sel2 X02 X12 k))/\(∀ j,sel3 Y01 Y11 Y21 j<=sel3 Y02 Y12 Y22 j->sel3 Y01 Y11 Y21 j≠0/\sel3 Y02 Y12 Y22 j≠0)
theorem pdiv_x (al ah bl bh X01 X02 X11 X12 Y01 Y02 Y11 Y12 Y21 Y22:Int) (w:World) (hX0:meetI al ah (-9223372036854775808) (-9223372036854775808)=(X01,X02)) (hX1:meetI al ah (-9223372036854775807) 9223372036854775807=(X11,X12)) (hY0:meetI bl bh (-9223372036854775808) (-2)=(Y01,Y02)) (hY1:meetI bl bh (-1) (-1)=(Y11,Y12)) (hY2:meetI bl bh 1 9223372036854775807=(Y21,Y22)) (hF:DvFacts X01 X02 X11 X12 Y01 Y02 Y11 Y12 Y21 Y22) :
  Calls Tryz.prog 208 #[.agg #[.int .i64 al,.int .i64 ah],.agg #[.int .i64 bl,.int .i64 bh]] w fun e w'=>e=.returned (.tuple #[.agg #[.int .i64 (dvF X01 X02 X11 X12 Y01 Y02 Y11 Y12 Y21 Y22 6).1.1,.int .i64 (dvF X01 X02 X11 X12 Y01 Y02 Y11 Y12 Y21 Y22 6).1.2],.bool (dvF X01 X02 X11 X12 Y01 Y02 Y11 Y12 Y21 Y22 6).2])/\Ok w w':=by
 have hmf:∀ (fn:Fn) (first cap:Array Value) (w:World),(Instr.makeFunc fn first cap).run Tryz.prog w=.ok (.func fn first cap) w:=fun _ _ _ _=>rfl
 have HM:Hid (meetI al ah (-9223372036854775808) (-9223372036854775808)=(X01,X02)/\meetI al ah (-9223372036854775807) 9223372036854775807=(X11,X12)/\meetI bl bh (-9223372036854775808) (-2)=(Y01,Y02)/\meetI bl bh (-1) (-1)=(Y11,Y12)/\meetI bl bh 1 9223372036854775807=(Y21,Y22)):=⟨hX0,hX1,hY0,hY1,hY2⟩
 have HF:Hid (DvFacts X01 X02 X11 X12 Y01 Y02 Y11 Y12 Y21 Y22):=hF
 clear hX0 hX1 hY0 hY1 hY2 hF
 go_enter Tryz.func208,Tryz.ntmps208
 go_wp2_with fail
 go_region
 go_wp2_with (first | (go_at_call 200;refine (pnone_ex _).mono ?_;rintro e w' ⟨rfl,rfl⟩) | fail)
 obtain ⟨g8,hg8⟩:∃ g8,g8=w.heap.size+1+1+1+1:=⟨_,rfl⟩
 obtain ⟨Wb,hWb⟩:∃ Wb,Wb=(((((w.alloc (.cells #[.int .i64 al,.int .i64 ah] 24)).alloc (.cells #[.int .i64 bl,.int .i64 bh] 24)).alloc (.cells #[.int .i64 0,.int .i64 0] 24)).alloc (.cells #[.int .i64 1,.int .i64 0] 24)).alloc (.cells #[.int .i64 1,.int .i64 0] 24)).drew:=⟨_,rfl⟩
 have HS:Hid (DvInv w Wb g8 (1,0)):=by
  rw [hWb,hg8]
  refine ⟨Below.drew (by repeat (first | exact Ok.refl _ | refine Ok.alloc ?_ _)),heap_drewR (heap_past _ _ _ (by simp) (heap_past _ _ _ (by simp) (heap_at _ _ _ (by simp)))),heap_drewR (heap_at _ _ _ (by simp)),by omega⟩
 rw [<-hWb,<-hg8]
 clear hWb hg8
 have hbN:Ok Wb Wb:=Ok.refl _
 go_wp2_with (first | (go_at_call 238;refine (pleast_any Wb _ (by assumption)).mono ?_;rintro e wN ⟨rfl,hbN⟩) | (go_at_call 239;refine (pbutleast_any Wb _ (by assumption)).mono ?_;rintro e wN ⟨rfl,hbN⟩) | (go_at_call 237;refine (pwithin_is _ _ _ _ _ _ (by first | exact HM.out.1 | exact HM.out.2.1) Wb _ (by assumption)).mono ?_;rintro e wN ⟨rfl,hbN⟩) | fail)
 have HS2:Hid (DvInv w wN g8 (dvF X01 X02 X11 X12 Y01 Y02 Y11 Y12 Y21 Y22 (3*0)).1):=HS.out.ok hbN
 clear HS hbN
 go_loopw [9,27] (fun b i wr=>∃ k:Nat,k<=2/\i=.int .i64 k/\b=.bool (dvF X01 X02 X11 X12 Y01 Y02 Y11 Y12 Y21 Y22 (3*k)).2/\Hid (DvInv w wr g8 (dvF X01 X02 X11 X12 Y01 Y02 Y11 Y12 Y21 Y22 (3*k)).1)) (fun _ i _=>(2-intOf i).toNat)
 case atStart=>exact ⟨0,by omega,rfl,rfl,HS2⟩
 case round =>
  obtain ⟨k,hk,rfl,rfl,HI⟩:=hrel
  clear HS2
  by_cases hk1:k<2
  ·have hk2:(k:Int)<2:=by omega
   have hix:=idxX X01 X02 X11 X12 k hk1
   have HXi:Hid (In64 (sel2 X01 X11 k)/\In64 (sel2 X02 X12 k)):=HF.out.1 k
   obtain ⟨x1,hx1⟩:∃ x1,x1=sel2 X01 X11 k:=⟨_,rfl⟩
   obtain ⟨x2,hx2⟩:∃ x2,x2=sel2 X02 X12 k:=⟨_,rfl⟩
   rw [<-hx1,<-hx2] at HXi
   have hix2:∀ w':World,(Instr.index 193 (.agg #[.int .i64 X01,.int .i64 X02,.int .i64 X11,.int .i64 X12]) (.int .i64 (k:Int))).run Tryz.prog w'=.ok (.agg #[.int .i64 x1,.int .i64 x2]) w':=by rw [hx1,hx2];exact hix
   have HXe:Hid (x1=sel2 X01 X11 k/\x2=sel2 X02 X12 k):=⟨hx1,hx2⟩
   clear hx1 hx2 hix
   go_wp2_with fail
   obtain ⟨g11,hg11⟩:∃ g11,g11=wr.heap.size:=⟨_,rfl⟩
   obtain ⟨Wx,hWx⟩:∃ Wx,Wx=wr.alloc (.cells #[.int .i64 x1,.int .i64 x2] 24):=⟨_,rfl⟩
   have HS3:Hid (DvInv w Wx g8 (dvF X01 X02 X11 X12 Y01 Y02 Y11 Y12 Y21 Y22 (3*k)).1/\Wx.heap[g11]?=some (rowD x1 x2)/\g8<g11):=by
    refine ⟨HI.out.ok (by rw [hWx];exact (Ok.refl _).alloc _),by rw [hWx];exact heap_at _ _ _ hg11,?_⟩
    rw [hg11];exact lt_row HI.out.2.2.1
   rw [<-hWx,<-hg11]
   clear hWx hg11 HI hix2
   have hbN:Ok Wx Wx:=Ok.refl _
   go_wp2_with (first | (go_at_call 240;refine (pupto_any _ Wx _ (by assumption)).mono ?_;rintro e wN ⟨rfl,hbN⟩) | (go_at_call 242;refine (pfrom_any _ Wx _ (by assumption)).mono ?_;rintro e wN ⟨rfl,hbN⟩) | (go_at_call 241;refine (pminusone_any Wx _ (by assumption)).mono ?_;rintro e wN ⟨rfl,hbN⟩) | (go_at_call 237;refine (pwithin_is _ _ _ _ _ _ (by first | exact HM.out.2.2.1 | exact HM.out.2.2.2.1 | exact HM.out.2.2.2.2) Wx _ (by assumption)).mono ?_;rintro e wN ⟨rfl,hbN⟩) | fail)
   have HS4:Hid (DvInv w wN g8 (dvF X01 X02 X11 X12 Y01 Y02 Y11 Y12 Y21 Y22 (3*k+0)).1/\wN.heap[g11]?=some (rowD x1 x2)/\g8<g11):=⟨HS3.out.1.ok hbN,Ok.row' hbN HS3.out.2.1,HS3.out.2.2⟩
   clear HS3 hbN
   go_loopw [9,40] (fun b i v=>∃ j:Nat,j<=3/\i=.int .i64 j/\b=.bool (dvF X01 X02 X11 X12 Y01 Y02 Y11 Y12 Y21 Y22 (3*k+j)).2/\Hid (DvInv w v g8 (dvF X01 X02 X11 X12 Y01 Y02 Y11 Y12 Y21 Y22 (3*k+j)).1/\v.heap[g11]?=some (rowD x1 x2)/\g8<g11)) (fun _ i _=>(3-intOf i).toNat)
   case atStart=>exact ⟨0,by omega,rfl,rfl,HS4⟩
   case round =>
    obtain ⟨j,hj,rfl,rfl,HJ⟩:=hrel
    clear HS4
    by_cases hj1:j<3
    ·have hj2:(j:Int)<3:=by omega
     have hix:=idxY Y01 Y02 Y11 Y12 Y21 Y22 j hj1
     have HYi:Hid (sel3 Y01 Y11 Y21 j<=sel3 Y02 Y12 Y22 j->sel3 Y01 Y11 Y21 j≠0/\sel3 Y02 Y12 Y22 j≠0):=HF.out.2 j
     obtain ⟨y1,hy1⟩:∃ y1,y1=sel3 Y01 Y11 Y21 j:=⟨_,rfl⟩
     obtain ⟨y2,hy2⟩:∃ y2,y2=sel3 Y02 Y12 Y22 j:=⟨_,rfl⟩
     rw [<-hy1,<-hy2] at HYi
     have hix2:∀ w':World,(Instr.index 195 (.agg #[.int .i64 Y01,.int .i64 Y02,.int .i64 Y11,.int .i64 Y12,.int .i64 Y21,.int .i64 Y22]) (.int .i64 (j:Int))).run Tryz.prog w'=.ok (.agg #[.int .i64 y1,.int .i64 y2]) w':=by rw [hy1,hy2];exact hix
     have HSt:Hid (dvF X01 X02 X11 X12 Y01 Y02 Y11 Y12 Y21 Y22 (3*k+(j+1))=stD x1 x2 y1 y2 (dvF X01 X02 X11 X12 Y01 Y02 Y11 Y12 Y21 Y22 (3*k+j))):=by
      unfold Hid
      rw [show 3*k+(j+1)=(3*k+j)+1 by omega,dvF,show (3*k+j)/3=k by omega,show (3*k+j)%3=j by omega,<-HXe.out.1,<-HXe.out.2,<-hy1,<-hy2]
     clear hy1 hy2 hix
     obtain ⟨O,hO⟩:∃ O,O=dvF X01 X02 X11 X12 Y01 Y02 Y11 Y12 Y21 Y22 (3*k+j):=⟨_,rfl⟩
     rw [<-hO] at HJ HSt ⊢
     clear hO
     obtain ⟨⟨O1,O2⟩,ex2⟩:=O
     have r1:=HJ.out.2.1
     obtain ⟨c0,c1,_,_⟩:=row_facts r1
     have s1:=lt_row r1
     have t0:¬g11=wr.heap.size:=by omega
     have t1:g11<wr.heap.size+1:=by omega
     go_wp2_with fail
     clear c0 c1
     obtain ⟨g13,hg13⟩:∃ g13,g13=wr.heap.size:=⟨_,rfl⟩
     obtain ⟨V,hV⟩:∃ V,V=wr.alloc (.cells #[.int .i64 y1,.int .i64 y2] 24):=⟨_,rfl⟩
     have okV:Ok wr V:=by rw [hV];exact (Ok.refl _).alloc _
     have r2:V.heap[g13]?=some (rowD y1 y2):=by rw [hV];exact heap_at _ _ _ hg13
     have HV:Hid (DvInv w V g8 (O1,O2)/\V.heap[g11]?=some (rowD x1 x2)/\g8<g11):=⟨HJ.out.1.ok okV,Ok.row' okV HJ.out.2.1,HJ.out.2.2⟩
     have v1:g11<V.heap.size:=Nat.lt_of_lt_of_le s1 okV.le
     have v2:=lt_row r2
     have v3:g11<g13:=by rw [hg13];exact s1
     rw [<-hV,<-hg13]
     clear hV hg13 okV HJ hix2 t0 t1 s1
     obtain ⟨c0,c1,_,_⟩:=row_facts HV.out.2.1
     obtain ⟨e0,e1,_,_⟩:=row_facts r2
     have HR2:Hid (V.heap[g13]?=some (rowD y1 y2)/\g11<g13):=⟨r2,v3⟩
     clear r1 r2 v3
     have hbN:Ok V V:=Ok.refl _
     by_cases q1:x2<x1
     ·have d1:decide (x2<x1)=true:=decide_eq_true q1
      have E:Hid (dvF X01 X02 X11 X12 Y01 Y02 Y11 Y12 Y21 Y22 (3*k+(j+1))=((O1,O2),ex2)):=by unfold Hid;rw [HSt.out,stD,if_pos (Or.inl q1)]
      go_wp2_with (first | (go_at_call 199;refine (pisnone_o _ _ V _ (by assumption)).mono ?_;rintro e wN ⟨rfl,hbN⟩;have c0':=Ok.cell hbN v1 c0;have c1':=Ok.cell hbN v1 c1;have e0':=Ok.cell hbN v2 e0;have e1':=Ok.cell hbN v2 e1) | fail)
      go_roundw
      case rel=>exact ⟨j+1,by omega,rfl,by rw [E.out],by rw [E.out];exact ⟨HV.out.1.ok hbN,Ok.row' hbN HV.out.2.1,HV.out.2.2⟩⟩
      case measure=>simp only [intOf];omega
     ·have d1:decide (x2<x1)=false:=decide_eq_false q1
      by_cases q2:y2<y1
      ·have d2:decide (y2<y1)=true:=decide_eq_true q2
       have E:Hid (dvF X01 X02 X11 X12 Y01 Y02 Y11 Y12 Y21 Y22 (3*k+(j+1))=((O1,O2),ex2)):=by unfold Hid;rw [HSt.out,stD,if_pos (Or.inr q2)]
       go_wp2_with (first | (go_at_call 199;refine (pisnone_o _ _ V _ (by assumption)).mono ?_;rintro e wN ⟨rfl,hbN⟩;have c0':=Ok.cell hbN v1 c0;have c1':=Ok.cell hbN v1 c1;have e0':=Ok.cell hbN v2 e0;have e1':=Ok.cell hbN v2 e1) | fail)
       go_roundw
       case rel=>exact ⟨j+1,by omega,rfl,by rw [E.out],by rw [E.out];exact ⟨HV.out.1.ok hbN,Ok.row' hbN HV.out.2.1,HV.out.2.2⟩⟩
       case measure=>simp only [intOf];omega
      ·have d2:decide (y2<y1)=false:=decide_eq_false q2
       go_wp2_with (first | (go_at_call 199;refine (pisnone_o _ _ V _ (by assumption)).mono ?_;rintro e wN ⟨rfl,hbN⟩;have c0':=Ok.cell hbN v1 c0;have c1':=Ok.cell hbN v1 c1;have e0':=Ok.cell hbN v2 e0;have e1':=Ok.cell hbN v2 e1) | fail)
       have E:Hid (dvF X01 X02 X11 X12 Y01 Y02 Y11 Y12 Y21 Y22 (3*k+(j+1))=(joinI O1 O2 (hullW (cL Int.tdiv x1 x2 y1 y2 4) (cH Int.tdiv x1 x2 y1 y2 4)).1 (hullW (cL Int.tdiv x1 x2 y1 y2 4) (cH Int.tdiv x1 x2 y1 y2 4)).2,ex2&&exW (cL Int.tdiv x1 x2 y1 y2 4) (cH Int.tdiv x1 x2 y1 y2 4))):=by unfold Hid;rw [HSt.out,stD,if_neg (by omega)]
       have hyy:=HYi.out (by omega)
       have HO:Hid (OpAt 243 x1 x2 y1 y2 Int.tdiv):=op_quo HXi.out.1 HXi.out.2 hyy.1 hyy.2
       obtain ⟨L,hL⟩:∃ L,cL Int.tdiv x1 x2 y1 y2 4=L:=⟨_,rfl⟩
       obtain ⟨H,hH⟩:∃ H,cH Int.tdiv x1 x2 y1 y2 4=H:=⟨_,rfl⟩
       have HLH:Hid (cL Int.tdiv x1 x2 y1 y2 4=L/\cH Int.tdiv x1 x2 y1 y2 4=H):=⟨hL,hH⟩
       rw [hL,hH] at E
       clear hL hH hyy HYi HSt
       have HN:Hid (DvInv w wN g8 (O1,O2)/\wN.heap[g11]?=some (rowD x1 x2)/\g8<g11):=⟨HV.out.1.ok hbN,Ok.row' hbN HV.out.2.1,HV.out.2.2⟩
       have hg13:g13<wN.heap.size:=Nat.lt_of_lt_of_le v2 hbN.le
       have hg11:g11<wN.heap.size:=Nat.lt_of_lt_of_le v1 hbN.le
       obtain ⟨W,hW⟩:∃ W,W=wN:=⟨_,rfl⟩
       obtain ⟨c0,c1,_,_⟩:=row_facts HN.out.2.1
       obtain ⟨c2,c3,_,_⟩:=row_facts (Ok.row' hbN HR2.out.1)
       rw [<-hW] at HN hg13 hg11 c0 c1 c2 c3 ⊢
       clear hW
       have g0:=hg11
       have g1:=hg13
       have hm0:=World.new_ne W _ c0
       have hm1:=World.new_ne W _ c1
       have hm2:=World.new_ne W _ c2
       have hm3:=World.new_ne W _ c3
       have hn0:¬g11=W.heap.size:=by omega
       have hn1:¬g13=W.heap.size:=by omega
       have hn2:¬g11=W.heap.size+1:=by omega
       have hn3:¬g13=W.heap.size+1:=by omega
       have hp0:¬W.heap.size+1=g11:=by omega
       have hp1:¬W.heap.size=g11:=by omega
       have hp2:¬W.heap.size=g13:=by omega
       have hp3:¬W.heap.size+1=g13:=by omega
       refine wp_cut2 (fun a1 w1=>∃ g bf,a1=⟨#[Value.agg #[Value.int IntKind.i64 al,Value.int IntKind.i64 ah],Value.agg #[Value.int IntKind.i64 bl,Value.int IntKind.i64 bh],Value.pointer (some ⟨w.heap.size,0,Option.none⟩),Value.pointer (some ⟨w.heap.size+1,0,Option.none⟩),Value.pointer (some ⟨w.heap.size+1+1,0,Option.none⟩),Value.bool false,Value.func (Fn.func (237:Nat)) #[Value.agg #[Value.int IntKind.i64 al,Value.int IntKind.i64 ah]] #[],Value.func (Fn.func (237:Nat)) #[Value.agg #[Value.int IntKind.i64 bl,Value.int IntKind.i64 bh]] #[],Value.pointer (some ⟨g8,0,Option.none⟩),Value.bool ex2,undef,Value.pointer (some ⟨g11,0,Option.none⟩),undef,Value.pointer (some ⟨g13,0,Option.none⟩),Value.pointer (some ⟨g,0,Option.none⟩),Value.agg #[Value.int IntKind.i64 al,Value.int IntKind.i64 ah],Value.func (Fn.func (237:Nat)) #[Value.agg #[Value.int IntKind.i64 al,Value.int IntKind.i64 ah]] #[],Value.agg #[Value.int IntKind.i64 bl,Value.int IntKind.i64 bh],Value.func (Fn.func (237:Nat)) #[Value.agg #[Value.int IntKind.i64 bl,Value.int IntKind.i64 bh]] #[],Value.agg #[Value.int IntKind.i64 1,Value.int IntKind.i64 0],Value.func (Fn.func (237:Nat)) #[Value.agg #[Value.int IntKind.i64 al,Value.int IntKind.i64 ah]] #[],Value.agg #[Value.int IntKind.i64 (-9223372036854775808),Value.int IntKind.i64 (-9223372036854775808)],Value.agg #[Value.int IntKind.i64 X01,Value.int IntKind.i64 X02],Value.func (Fn.func (237:Nat)) #[Value.agg #[Value.int IntKind.i64 al,Value.int IntKind.i64 ah]] #[],Value.agg #[Value.int IntKind.i64 (-9223372036854775807),Value.int IntKind.i64 9223372036854775807],Value.agg #[Value.int IntKind.i64 X11,Value.int IntKind.i64 X12],Value.agg #[Value.int IntKind.i64 X01,Value.int IntKind.i64 X02,Value.int IntKind.i64 X11,Value.int IntKind.i64 X12],Value.int IntKind.i64 (k:Int),Value.bool true,Value.agg #[Value.int IntKind.i64 x1,Value.int IntKind.i64 x2],Value.func (Fn.func (237:Nat)) #[Value.agg #[Value.int IntKind.i64 bl,Value.int IntKind.i64 bh]] #[],Value.agg #[Value.int IntKind.i64 (-9223372036854775808),Value.int IntKind.i64 (-2)],Value.agg #[Value.int IntKind.i64 Y01,Value.int IntKind.i64 Y02],Value.func (Fn.func (237:Nat)) #[Value.agg #[Value.int IntKind.i64 bl,Value.int IntKind.i64 bh]] #[],Value.agg #[Value.int IntKind.i64 (-1),Value.int IntKind.i64 (-1)],Value.agg #[Value.int IntKind.i64 Y11,Value.int IntKind.i64 Y12],Value.func (Fn.func (237:Nat)) #[Value.agg #[Value.int IntKind.i64 bl,Value.int IntKind.i64 bh]] #[],Value.agg #[Value.int IntKind.i64 1,Value.int IntKind.i64 9223372036854775807],Value.agg #[Value.int IntKind.i64 Y21,Value.int IntKind.i64 Y22],Value.agg #[Value.int IntKind.i64 Y01,Value.int IntKind.i64 Y02,Value.int IntKind.i64 Y11,Value.int IntKind.i64 Y12,Value.int IntKind.i64 Y21,Value.int IntKind.i64 Y22],Value.int IntKind.i64 (j:Int),Value.bool true,Value.agg #[Value.int IntKind.i64 y1,Value.int IntKind.i64 y2],Value.agg #[Value.int IntKind.i64 x1,Value.int IntKind.i64 x2],Value.bool false,Value.bool false,Value.agg #[Value.int IntKind.i64 y1,Value.int IntKind.i64 y2],Value.bool false,Value.bool false,Value.func (Fn.func 253) #[] #[Value.pointer (some ⟨bf,0,Option.none⟩)],Value.agg #[Value.int IntKind.i64 x1,Value.int IntKind.i64 x2],Value.agg #[Value.int IntKind.i64 y1,Value.int IntKind.i64 y2],Value.agg #[Value.int IntKind.i64 (tW L),Value.int IntKind.i64 (wrap64 L),Value.int IntKind.i64 (tW H),Value.int IntKind.i64 (wrap64 H)],u53,u54,u55,u56,u57,u58,u59,u60,u61,u62,u63,undef,undef],[]⟩/\Hid (Spn W w1 g L H)) ?_ ?_
       ·go_region_held3 (fun w'=>w'.cell? ⟨g11,0,none⟩=some (.int .i64 x1)/\w'.cell? ⟨g11,1,none⟩=some (.int .i64 x2)/\w'.cell? ⟨g13,0,none⟩=some (.int .i64 y1)/\w'.cell? ⟨g13,1,none⟩=some (.int .i64 y2)) (go_keep)
         (first
         | (go_at_call 229;refine (pthrough_ex _ _).mono ?_;rintro e w' ⟨rfl,rfl⟩)
         | (go_at_call 253;refine (pthi_q Int.tdiv _ _ _ _ L H _ _ HO.out jj HLH.out).mono ?_;rintro e w2 ⟨rfl,hb2⟩;have hbW:Ok W w2:=Ok.step (by repeat (first | exact Ok.refl _ | refine Ok.alloc ?_ _ | refine Ok.draws ?_ _ | exact Below.drew (Ok.refl _))) hb2;have e0:=Ok.cell hbW g0 c0;have e1:=Ok.cell hbW g0 c1;have e2:=Ok.cell hbW g1 c2;have e3:=Ok.cell hbW g1 c3;have j0:¬w2.heap.size=g11:=(by have:=hbW.le;omega);have j1:¬w2.heap.size=g13:=(by have:=hbW.le;omega);have j2:¬g11=w2.heap.size:=(by have:=hbW.le;omega);have j3:¬g13=w2.heap.size:=(by have:=hbW.le;omega);first | (have HQ:Hid _:=rowA (o:=.cells #[.int .i64 0,.int .i64 0,.int .i64 0,.int .i64 0] 187) hb2;obtain ⟨⟨q0,q1,q2,q3⟩,q4,q5,q6,q7⟩:=row_facts4 HQ.out) | (have HQ:Hid _:=rowB (o:=.cells #[.int .i64 0,.int .i64 0,.int .i64 0,.int .i64 0] 187) hb2;obtain ⟨⟨q0,q1,q2,q3⟩,q4,q5,q6,q7⟩:=row_facts4 HQ.out) | skip)
         | fail)
        all_goals (refine ⟨_,_,rfl,?_⟩;first | with_reducible exact thr_a hbW | ((with_reducible refine thr_b hbW HQ.out ?_);omega))
       ·rintro a1 w1 ⟨g,bf,rfl,HT⟩
        clear c0 c1 c2 c3 g0 g1 hm0 hm1 hm2 hm3 hn0 hn1 hn2 hn3 hp0 hp1 hp2 hp3 d1 d2
        have okT:=HT.out.1
        have ro:=Ok.row' okT HN.out.1.2.2.1
        obtain ⟨o0,o1,_,_⟩:=row_facts ro
        have rg:=HT.out.2.1
        obtain ⟨⟨q0,q1,q2,q3⟩,_,_,_,_⟩:=row_facts4 rg
        have HM2:Hid (w1.cell? ⟨g8,0,none⟩=some (.int .i64 O1)/\w1.cell? ⟨g8,1,none⟩=some (.int .i64 O2)/\w1.cell? ⟨g,0,none⟩=some (.int .i64 (tW L))/\w1.cell? ⟨g,1,none⟩=some (.int .i64 (wrap64 L))/\w1.cell? ⟨g,2,none⟩=some (.int .i64 (tW H))/\w1.cell? ⟨g,3,none⟩=some (.int .i64 (wrap64 H))):=⟨o0,o1,q0,q1,q2,q3⟩
        have HU:Hid (g8<w1.heap.size/\g<w1.heap.size):=⟨lt_row ro,lt_row rg⟩
        have HN1:Hid (DvInv w w1 g8 (O1,O2)/\w1.heap[g11]?=some (rowD x1 x2)/\g8<g11):=⟨HN.out.1.ok okT,Ok.row' okT HN.out.2.1,HN.out.2.2⟩
        have HRG:Hid (w1.heap[g]?=some (rowS L H)/\g≠g8):=⟨rg,by have h1:=HN.out.2.2;have h2:=HT.out.2.2;omega⟩
        clear okT ro rg o0 o1 q0 q1 q2 q3 HN HT hg13 hg11 HV HR2 hbN v1 v2 e0 e1
        simp only [Exit.then]
        go_wp2_with fail
        refine wp_region_L (fun w'=>w'.cell? ⟨g8,0,none⟩=some (.int .i64 O1)/\w'.cell? ⟨g8,1,none⟩=some (.int .i64 O2)/\w'.cell? ⟨g,0,none⟩=some (.int .i64 (tW L))/\w'.cell? ⟨g,1,none⟩=some (.int .i64 (wrap64 L))/\w'.cell? ⟨g,2,none⟩=some (.int .i64 (tW H))/\w'.cell? ⟨g,3,none⟩=some (.int .i64 (wrap64 H))) 4 (by kernel_rfl) ?_
        refine wpAnyL_take (i:=0) (oi:={ dst:=some 53,op:=Op.load 24 (Operand.tmp 8),type:=24,pos := "operate.go:58",after:=#[],guard:=Option.none }) (v:=.agg #[.int .i64 O1,.int .i64 O2]) rfl (by kernel_rfl) (by kernel_rfl) (by kernel_rfl) (by kernel_rfl) (fun _ _ _ h=>h) HM2.out (Or.inl ⟨by rfl,?_⟩) ?_
        ·intro w' hSw
         obtain ⟨s0,s1,s2,s3,s4,s5⟩:=hSw
         go_simp
        simp only [Act.put,List.setIfInBounds_toArray,List.set_cons_zero,List.set_cons_succ]
        refine wpAnyL_take (i:=1) (oi:={ dst:=some 54,op:=Op.load 187 (Operand.tmp 14),type:=187,pos := "operate.go:58",after:=#[],guard:=Option.none }) (v:=.agg #[.int .i64 (tW L),.int .i64 (wrap64 L),.int .i64 (tW H),.int .i64 (wrap64 H)]) rfl (by kernel_rfl) (by kernel_rfl) (by kernel_rfl) (by kernel_rfl) (fun _ _ _ h=>h) HM2.out (Or.inl ⟨by rfl,?_⟩) ?_
        ·intro w' hSw
         obtain ⟨s0,s1,s2,s3,s4,s5⟩:=hSw
         go_simp
        simp only [Act.put,List.setIfInBounds_toArray,List.set_cons_zero,List.set_cons_succ]
        refine wpAnyL_step (i:=2) (by kernel_rfl) rfl (fun K hK=>?_)
        go_simp
        refine (phull_any _ _ w1 _ (Below.drew (Ok.refl _))).mono ?_
        rintro e w2 ⟨rfl,hb2⟩
        go_wp2_with fail
        refine hK.out _ _ (fun _=>⟨Ok.cell hb2 HU.out.1 HM2.out.1,Ok.cell hb2 HU.out.1 HM2.out.2.1,Ok.cell hb2 HU.out.2 HM2.out.2.2.1,Ok.cell hb2 HU.out.2 HM2.out.2.2.2.1,Ok.cell hb2 HU.out.2 HM2.out.2.2.2.2.1,Ok.cell hb2 HU.out.2 HM2.out.2.2.2.2.2⟩) ?_
        clear hK K
        refine wpAnyL_step (i:=3) (by kernel_rfl) rfl (fun K hK=>?_)
        go_simp
        refine (Jpjoin_any _ _ _ _ w1 _ hb2).mono ?_
        rintro e w3 ⟨rfl,hb3⟩
        go_wp2_with fail
        refine hK.out _ _ (fun _=>⟨Ok.cell hb3 HU.out.1 HM2.out.1,Ok.cell hb3 HU.out.1 HM2.out.2.1,Ok.cell hb3 HU.out.2 HM2.out.2.2.1,Ok.cell hb3 HU.out.2 HM2.out.2.2.2.1,Ok.cell hb3 HU.out.2 HM2.out.2.2.2.2.1,Ok.cell hb3 HU.out.2 HM2.out.2.2.2.2.2⟩) ?_
        clear hK K
        obtain ⟨z0,z1,z2,z3⟩:=row_facts (Ok.row' hb3 HN1.out.1.2.2.1)
        refine wpAnyL_step (i:=4) (by kernel_rfl) rfl (fun K hK=>?_)
        go_simp
        refine hK.out _ _ (fun h=>absurd rfl h) ?_
        clear hK K
        refine wpAnyL_done (by kernel_rfl) ?_ _
        obtain ⟨Z,hZ⟩:∃ Z,Z=(w3.setCell ⟨g8,0,none⟩ (.int .i64 (joinI O1 O2 (hullW L H).1 (hullW L H).2).1)).setCell ⟨g8,1,none⟩ (.int .i64 (joinI O1 O2 (hullW L H).1 (hullW L H).2).2):=⟨_,rfl⟩
        have HZ:Hid (DvInv w Z g8 (joinI O1 O2 (hullW L H).1 (hullW L H).2)/\Z.heap[g11]?=some (rowD x1 x2)/\g8<g11):=by
         have hne:=HN1.out.2.2
         refine ⟨by rw [hZ];exact (HN1.out.1.ok hb3).set _ _,?_,hne⟩
         rw [hZ,heap_setCell_other _ _ _ _ (show g11≠g8 by omega),heap_setCell_other _ _ _ _ (show g11≠g8 by omega)]
         exact Ok.row' hb3 HN1.out.2.1
        have rz:Z.heap[g]?=some (rowS L H):=by
         rw [hZ,heap_setCell_other _ _ _ _ HRG.out.2,heap_setCell_other _ _ _ _ HRG.out.2]
         exact Ok.row' hb3 HRG.out.1
        obtain ⟨⟨q0,q1,q2,q3⟩,_,_,_,_⟩:=row_facts4 rz
        rw [<-hZ]
        clear hZ rz z0 z1 z2 z3 hb2 hb3 HN1 HRG HM2 HU
        have hbZ:Ok Z Z:=Ok.refl _
        cases ex2
        ·go_wp2_with fail
         go_roundw
         case rel=>exact ⟨j+1,by omega,rfl,by rw [E.out];rfl,by rw [E.out];exact HZ⟩
         case measure=>simp only [intOf];omega
        ·go_wp2_with (first | (go_at_call 231;refine (pexact_any _ _ Z _ hbZ).mono ?_;rintro e w4 ⟨rfl,hb4⟩) | fail)
         go_roundw
         case rel=>exact ⟨j+1,by omega,rfl,by rw [E.out];rfl,by rw [E.out];exact ⟨HZ.out.1.ok hb4,Ok.row' hb4 HZ.out.2.1,HZ.out.2.2⟩⟩
         case measure=>simp only [intOf];omega
    ·have hj2:j=3:=by omega
     subst hj2
     go_wp2_with fail
     refine ⟨⟨k+1,by omega,rfl,?_,?_⟩,by simp only [intOf];omega⟩
     ·rfl
     ·exact HJ.out.1
  ·have hk2:k=2:=by omega
   subst hk2
   obtain ⟨o0,o1,o2,o3⟩:=row_facts HI.out.2.2.1
   obtain ⟨p0,p1,p2,p3⟩:=row_facts HI.out.2.1
   go_wp2_with fail
   (try simp only [Exit.inBlock,Exit.then])
   refine bodyPost_ret (results_iv rfl _ _ (w.heap.size+2) 24 #[_,_] (0,0) _ rfl (row_set2 HI.out.2.1 _ _) Tryz.underlying24 rfl infoI) rfl ?_
   exact ⟨rfl,(HI.out.1.set (show w.heap.size<=w.heap.size+2 by omega) _).set (show w.heap.size<=w.heap.size+2 by omega) _⟩
end
section
open Go.RowKit
theorem Hull.join {S T:Int->Prop} {a b c d:Int} (h:Hull S a b) (g:Hull T c d):Hull (fun v=>S v\/T v) (joinI a b c d).1 (joinI a b c d).2:=by
 rcases h with ⟨rfl,rfl,h⟩ | ⟨h1,h2,h3⟩
 ·have e:joinI 1 0 c d=normI c d:=by unfold joinI;rw [if_pos (by omega)]
  rw [e]
  rcases g with ⟨rfl,rfl,g⟩ | ⟨g1,g2,g3⟩
  ·left;exact ⟨rfl,rfl,fun v hv=>by rcases hv with hv | hv;exact h v hv;exact g v hv⟩
  ·have hcd:c<=d:=(g3 d g2).1
   have e2:normI c d=(c,d):=by unfold normI;rw [if_neg (by omega)]
   rw [e2]
   right
   exact ⟨Or.inr g1,Or.inr g2,fun v hv=>by rcases hv with hv | hv;exact absurd hv (h v);exact g3 v hv⟩
 ·have hab:a<=b:=(h3 b h2).1
  rcases g with ⟨rfl,rfl,g⟩ | ⟨g1,g2,g3⟩
  ·have e:joinI a b 1 0=(a,b):=by unfold joinI;rw [if_neg (by omega),if_pos (by omega)]
   rw [e]
   right
   exact ⟨Or.inl h1,Or.inl h2,fun v hv=>by rcases hv with hv | hv;exact h3 v hv;exact absurd hv (g v)⟩
  ·have hcd:c<=d:=(g3 d g2).1
   have e:joinI a b c d=(min a c,max b d):=by unfold joinI;rw [if_neg (by omega),if_neg (by omega)]
   rw [e]
   right
   refine ⟨?_,?_,?_⟩
   ·show S (min a c)\/T (min a c)
    by_cases hh:a<=c
    ·rw [show min a c=a by omega];exact Or.inl h1
    ·rw [show min a c=c by omega];exact Or.inr g1
   ·show S (max b d)\/T (max b d)
    by_cases hh:b<=d
    ·rw [show max b d=d by omega];exact Or.inr g2
    ·rw [show max b d=b by omega];exact Or.inl h2
   ·intro v hv
    rcases hv with hv | hv
    ·have:=h3 v hv;exact ⟨by show min a c<=v;omega,by show v<=max b d;omega⟩
    ·have:=g3 v hv;exact ⟨by show min a c<=v;omega,by show v<=max b d;omega⟩
def PF (x1 x2 y1 y2:Int):Prop:=x1<=x2->y1<=y2->In64 x1/\In64 x2/\(0<y1\/y2<0)/\(¬(Mem x1 x2 (-9223372036854775808)/\Mem y1 y2 (-1))\/(x1 = -9223372036854775808/\x2 = -9223372036854775808/\y1 = -1/\y2 = -1))
def NoWrap (x1 x2 y1 y2:Int):Prop:=∀ x y,Mem x1 x2 x->Mem y1 y2 y->y≠0->In64 (x.tdiv y)
theorem cL_tdiv (x1 x2 y1 y2:Int):cL Int.tdiv x1 x2 y1 y2 4=min4 (x1.tdiv y1) (x1.tdiv y2) (x2.tdiv y1) (x2.tdiv y2)/\cH Int.tdiv x1 x2 y1 y2 4=max4 (x1.tdiv y1) (x1.tdiv y2) (x2.tdiv y1) (x2.tdiv y2):=by
 simp only [cL,cH,cX,cY,min4,max4]
 generalize x1.tdiv y1=p at *
 generalize x1.tdiv y2=q at *
 generalize x2.tdiv y1=r at *
 generalize x2.tdiv y2=s at *
 omega
theorem piece_hull {x1 x2 y1 y2:Int} (hx:x1<=x2) (hy:y1<=y2) (hP:PF x1 x2 y1 y2) :
  Hull (DivS x1 x2 y1 y2) (hullW (cL Int.tdiv x1 x2 y1 y2 4) (cH Int.tdiv x1 x2 y1 y2 4)).1 (hullW (cL Int.tdiv x1 x2 y1 y2 4) (cH Int.tdiv x1 x2 y1 y2 4)).2/\(exW (cL Int.tdiv x1 x2 y1 y2 4) (cH Int.tdiv x1 x2 y1 y2 4)=true↔NoWrap x1 x2 y1 y2):=by
 obtain ⟨i1,i2,hs,hw⟩:=hP hx hy
 rcases hw with hw | ⟨rfl,rfl,rfl,rfl⟩
 ·have e1:=(cL_tdiv x1 x2 y1 y2).1
  have e2:=(cL_tdiv x1 x2 y1 y2).2
  have m1:Mem x1 x2 x1:=⟨by omega,hx⟩
  have m2:Mem x1 x2 x2:=⟨hx,by omega⟩
  have n1:Mem y1 y2 y1:=⟨by omega,hy⟩
  have n2:Mem y1 y2 y2:=⟨hy,by omega⟩
  have nz:∀ y,Mem y1 y2 y->y≠0:=by intro y h;unfold Mem at h;omega
  have nin:∀ x y,Mem x1 x2 x->Mem y1 y2 y->In64 (x.tdiv y):=by
   intro x y h g
   refine quo_in ?_ (nz y g) ?_
   ·unfold Mem at h;unfold In64 at *;omega
   ·rintro ⟨rfl,rfl⟩;exact hw ⟨h,g⟩
  have bet:∀ x y,Mem x1 x2 x->Mem y1 y2 y->cL Int.tdiv x1 x2 y1 y2 4<=x.tdiv y/\x.tdiv y<=cH Int.tdiv x1 x2 y1 y2 4:=by
   intro x y h g
   rw [e1,e2]
   rcases hs with hs | hs
   ·exact tdiv_corners_pos hs h g
   ·exact tdiv_corners_neg hs h g
  have ex:∀ (z:Int),(z=x1.tdiv y1\/z=x1.tdiv y2\/z=x2.tdiv y1\/z=x2.tdiv y2)->∃ x y,Mem x1 x2 x/\Mem y1 y2 y/\z=x.tdiv y:=by
   rintro z (h | h | h | h)
   ·exact ⟨x1,y1,m1,n1,h⟩
   ·exact ⟨x1,y2,m1,n2,h⟩
   ·exact ⟨x2,y1,m2,n1,h⟩
   ·exact ⟨x2,y2,m2,n2,h⟩
  obtain ⟨xl,yl,a1,a2,a3⟩:=ex (cL Int.tdiv x1 x2 y1 y2 4) (by
   rw [e1];unfold min4
   generalize x1.tdiv y1=p at *
   generalize x1.tdiv y2=q at *
   generalize x2.tdiv y1=r at *
   generalize x2.tdiv y2=s at *
   omega)
  obtain ⟨xh,yh,b1,b2,b3⟩:=ex (cH Int.tdiv x1 x2 y1 y2 4) (by
   rw [e2];unfold max4
   generalize x1.tdiv y1=p at *
   generalize x1.tdiv y2=q at *
   generalize x2.tdiv y1=r at *
   generalize x2.tdiv y2=s at *
   omega)
  clear e1 e2 ex
  generalize cL Int.tdiv x1 x2 y1 y2 4=L at *
  generalize cH Int.tdiv x1 x2 y1 y2 4=H at *
  have inL:In64 L:=by rw [a3];exact nin _ _ a1 a2
  have inH:In64 H:=by rw [b3];exact nin _ _ b1 b2
  have hh:hullW L H=(L,H):=by
   unfold hullW
   rw [if_pos (by unfold tW;unfold In64 at inL inH;omega),wrap64_id inL,wrap64_id inH]
  rw [hh]
  refine ⟨Or.inr ⟨⟨xl,yl,a1,a2,nz _ a2,by rw [<-a3];exact (wrap64_id inL).symm⟩,⟨xh,yh,b1,b2,nz _ b2,by rw [<-b3];exact (wrap64_id inH).symm⟩,?_⟩,?_⟩
  ·rintro v ⟨x,y,h1,h2,h3,rfl⟩
   rw [wrap64_id (nin x y h1 h2)]
   exact bet x y h1 h2
  ·have:exW L H=true:=by unfold exW;rw [decide_eq_true inL,decide_eq_true inH];rfl
   rw [this]
   exact ⟨fun _ x y h g _=>nin x y h g,fun _=>rfl⟩
 ·have e1:cL Int.tdiv (-9223372036854775808) (-9223372036854775808) (-1) (-1) 4=9223372036854775808:=by kernel_rfl
  have e2:cH Int.tdiv (-9223372036854775808) (-9223372036854775808) (-1) (-1) 4=9223372036854775808:=by kernel_rfl
  rw [e1,e2]
  have hh:hullW 9223372036854775808 9223372036854775808=(-9223372036854775808,-9223372036854775808):=by kernel_rfl
  have hz:exW 9223372036854775808 9223372036854775808=false:=by
   unfold exW;rw [decide_eq_false (by unfold In64;omega)];rfl
  have ev:wrap64 ((-9223372036854775808:Int).tdiv (-1)) = -9223372036854775808:=by kernel_rfl
  rw [hh,hz]
  have mm:Mem (-9223372036854775808) (-9223372036854775808) (-9223372036854775808):=⟨by omega,by omega⟩
  have m1:Mem (-1) (-1) (-1):=⟨by omega,by omega⟩
  refine ⟨Or.inr ⟨⟨_,_,mm,m1,by omega,ev.symm⟩,⟨_,_,mm,m1,by omega,ev.symm⟩,?_⟩,?_⟩
  ·rintro v ⟨x,y,h1,h2,h3,rfl⟩
   have hx':x = -9223372036854775808:=by unfold Mem at h1;omega
   have hy':y = -1:=by unfold Mem at h2;omega
   subst hx' hy'
   rw [ev]
   exact ⟨by show (-9223372036854775808:Int) <= -9223372036854775808;omega,by show (-9223372036854775808:Int) <= -9223372036854775808;omega⟩
  ·constructor
   ·intro h;cases h
   ·intro h
    have:=h _ _ mm m1 (by omega)
    have e:(-9223372036854775808:Int).tdiv (-1)=9223372036854775808:=by kernel_rfl
    rw [e] at this
    unfold In64 at this
    omega
theorem st_hull {S:Int->Prop} {C:Prop} {s:(Int×Int)×Bool} {x1 x2 y1 y2:Int} (h:Hull S s.1.1 s.1.2) (hc:s.2=true↔C) (hP:PF x1 x2 y1 y2) :
  Hull (fun v=>S v\/DivS x1 x2 y1 y2 v) (stD x1 x2 y1 y2 s).1.1 (stD x1 x2 y1 y2 s).1.2/\((stD x1 x2 y1 y2 s).2=true↔C/\NoWrap x1 x2 y1 y2):=by
 unfold stD
 by_cases hn:x2<x1\/y2<y1
 ·rw [if_pos hn]
  refine ⟨h.congr fun v=>⟨Or.inl,?_⟩,?_⟩
  ·rintro (hv | ⟨x,y,h1,h2,_⟩)
   ·exact hv
   ·unfold Mem at h1 h2;omega
  ·rw [hc]
   refine ⟨fun c=>⟨c,fun x y h1 h2 _=>?_⟩,fun c=>c.1⟩
   unfold Mem at h1 h2;omega
 ·rw [if_neg hn]
  obtain ⟨p1,p2⟩:=piece_hull (show x1<=x2 by omega) (show y1<=y2 by omega) hP
  refine ⟨h.join p1,?_⟩
  show (s.2&&_)=true↔_
  rw [Bool.and_eq_true,hc,p2]
theorem dv_hull {X01 X02 X11 X12 Y01 Y02 Y11 Y12 Y21 Y22:Int} (hP:∀ i,i<6->PF (sel2 X01 X11 (i/3)) (sel2 X02 X12 (i/3)) (sel3 Y01 Y11 Y21 (i%3)) (sel3 Y02 Y12 Y22 (i%3))) :
  ∀ m,m<=6->Hull (fun v=>∃ i,i<m/\DivS (sel2 X01 X11 (i/3)) (sel2 X02 X12 (i/3)) (sel3 Y01 Y11 Y21 (i%3)) (sel3 Y02 Y12 Y22 (i%3)) v) (dvF X01 X02 X11 X12 Y01 Y02 Y11 Y12 Y21 Y22 m).1.1 (dvF X01 X02 X11 X12 Y01 Y02 Y11 Y12 Y21 Y22 m).1.2 /\
   ((dvF X01 X02 X11 X12 Y01 Y02 Y11 Y12 Y21 Y22 m).2=true↔∀ i,i<m->NoWrap (sel2 X01 X11 (i/3)) (sel2 X02 X12 (i/3)) (sel3 Y01 Y11 Y21 (i%3)) (sel3 Y02 Y12 Y22 (i%3))):=by
 intro m
 induction m with
 | zero =>
  intro _
  refine ⟨Or.inl ⟨rfl,rfl,?_⟩,?_⟩
  ·rintro v ⟨i,hi,_⟩;omega
  ·exact ⟨fun _ i hi=>by omega,fun _=>rfl⟩
 | succ m ih =>
  intro hm
  obtain ⟨i1,i2⟩:=ih (by omega)
  obtain ⟨j1,j2⟩:=st_hull i1 i2 (hP m (by omega))
  refine ⟨j1.congr fun v=>⟨?_,?_⟩,?_⟩
  ·rintro (⟨i,hi,h⟩ | h)
   ·exact ⟨i,by omega,h⟩
   ·exact ⟨m,by omega,h⟩
  ·rintro ⟨i,hi,h⟩
   by_cases e:i=m
   ·subst e;exact Or.inr h
   ·exact Or.inl ⟨i,by omega,h⟩
  ·show (stD _ _ _ _ _).2=true↔_
   rw [j2]
   constructor
   ·rintro ⟨h1,h2⟩ i hi
    by_cases e:i=m
    ·subst e;exact h2
    ·exact h1 i (by omega)
   ·intro h
    exact ⟨fun i hi=>h i (by omega),h m (by omega)⟩
def Parts (al ah bl bh X01 X02 X11 X12 Y01 Y02 Y11 Y12 Y21 Y22:Int):Prop:=meetI al ah (-9223372036854775808) (-9223372036854775808)=(X01,X02)/\meetI al ah (-9223372036854775807) 9223372036854775807=(X11,X12)/\meetI bl bh (-9223372036854775808) (-2)=(Y01,Y02)/\meetI bl bh (-1) (-1)=(Y11,Y12)/\meetI bl bh 1 9223372036854775807=(Y21,Y22)
theorem mem_of {a b c d p q v:Int} (h:meetI a b c d=(p,q)):Mem p q v↔Mem a b v/\Mem c d v:=by
 have:=meetI_mem a b c d v
 rw [h] at this
 exact this
theorem meet_cases {a b c d p q:Int} (h:meetI a b c d=(p,q)):(p=1/\q=0)\/(p<=q/\p=max a c/\q=min b d):=by
 unfold meetI normI at h
 split at h
 ·left;cases h;exact ⟨rfl,rfl⟩
 ·right;rename_i hh;cases h;exact ⟨by omega,rfl,rfl⟩
theorem parts_facts {al ah bl bh X01 X02 X11 X12 Y01 Y02 Y11 Y12 Y21 Y22:Int} (h:Parts al ah bl bh X01 X02 X11 X12 Y01 Y02 Y11 Y12 Y21 Y22) (ha1:In64 al) (ha2:In64 ah) (hb1:In64 bl) (hb2:In64 bh):DvFacts X01 X02 X11 X12 Y01 Y02 Y11 Y12 Y21 Y22:=by
 obtain ⟨h0,h1,h2,h3,h4⟩:=h
 have c0:=meet_cases h0;have c1:=meet_cases h1;have c2:=meet_cases h2;have c3:=meet_cases h3;have c4:=meet_cases h4
 clear h0 h1 h2 h3 h4
 unfold In64 at *
 refine ⟨fun k=>?_,fun j=>?_⟩
 ·unfold sel2
  cases k<;>simp only<;>unfold In64<;>omega
 ·unfold sel3
  split<;>omega
theorem parts_pf {al ah bl bh X01 X02 X11 X12 Y01 Y02 Y11 Y12 Y21 Y22:Int} (h:Parts al ah bl bh X01 X02 X11 X12 Y01 Y02 Y11 Y12 Y21 Y22) (ha1:In64 al) (ha2:In64 ah) (hb1:In64 bl) (hb2:In64 bh):∀ i,i<6->PF (sel2 X01 X11 (i/3)) (sel2 X02 X12 (i/3)) (sel3 Y01 Y11 Y21 (i%3)) (sel3 Y02 Y12 Y22 (i%3)):=by
 obtain ⟨h0,h1,h2,h3,h4⟩:=h
 have c0:=meet_cases h0;have c1:=meet_cases h1;have c2:=meet_cases h2;have c3:=meet_cases h3;have c4:=meet_cases h4
 clear h0 h1 h2 h3 h4
 unfold In64 at *
 intro i hi
 obtain rfl | rfl | rfl | rfl | rfl | rfl:i=0\/i=1\/i=2\/i=3\/i=4\/i=5:=by omega
 ·show PF X01 X02 Y01 Y02
  unfold PF In64 Mem;intro p q;omega
 ·show PF X01 X02 Y11 Y12
  unfold PF In64 Mem;intro p q;omega
 ·show PF X01 X02 Y21 Y22
  unfold PF In64 Mem;intro p q;omega
 ·show PF X11 X12 Y01 Y02
  unfold PF In64 Mem;intro p q;omega
 ·show PF X11 X12 Y11 Y12
  unfold PF In64 Mem;intro p q;omega
 ·show PF X11 X12 Y21 Y22
  unfold PF In64 Mem;intro p q;omega
theorem parts_find {al ah bl bh X01 X02 X11 X12 Y01 Y02 Y11 Y12 Y21 Y22 x y:Int} (h:Parts al ah bl bh X01 X02 X11 X12 Y01 Y02 Y11 Y12 Y21 Y22) (ha1:In64 al) (ha2:In64 ah) (hb1:In64 bl) (hb2:In64 bh) (hx:Mem al ah x) (hy:Mem bl bh y) (h0:y≠0) :
  ∃ i,i<6/\Mem (sel2 X01 X11 (i/3)) (sel2 X02 X12 (i/3)) x/\Mem (sel3 Y01 Y11 Y21 (i%3)) (sel3 Y02 Y12 Y22 (i%3)) y:=by
 obtain ⟨p0,p1,q0,q1,q2⟩:=h
 have ix:In64 x:=by unfold In64 Mem at *;omega
 have iy:In64 y:=by unfold In64 Mem at *;omega
 unfold In64 at ix iy
 have hxc:Mem X01 X02 x\/Mem X11 X12 x:=by
  rw [mem_of p0,mem_of p1]
  by_cases c:x = -9223372036854775808
  ·exact Or.inl ⟨hx,by unfold Mem;omega⟩
  ·exact Or.inr ⟨hx,by unfold Mem;omega⟩
 have hyc:Mem Y01 Y02 y\/Mem Y11 Y12 y\/Mem Y21 Y22 y:=by
  rw [mem_of q0,mem_of q1,mem_of q2]
  by_cases c:y <= -2
  ·exact Or.inl ⟨hy,by unfold Mem;omega⟩
  ·by_cases c2:y = -1
   ·exact Or.inr (Or.inl ⟨hy,by unfold Mem;omega⟩)
   ·exact Or.inr (Or.inr ⟨hy,by unfold Mem;omega⟩)
 rcases hxc with hx' | hx'<;>rcases hyc with hy' | hy' | hy'
 ·exact ⟨0,by omega,hx',hy'⟩
 ·exact ⟨1,by omega,hx',hy'⟩
 ·exact ⟨2,by omega,hx',hy'⟩
 ·exact ⟨3,by omega,hx',hy'⟩
 ·exact ⟨4,by omega,hx',hy'⟩
 ·exact ⟨5,by omega,hx',hy'⟩
theorem parts_in {al ah bl bh X01 X02 X11 X12 Y01 Y02 Y11 Y12 Y21 Y22 x y:Int} {i:Nat} (h:Parts al ah bl bh X01 X02 X11 X12 Y01 Y02 Y11 Y12 Y21 Y22) (hx:Mem (sel2 X01 X11 (i/3)) (sel2 X02 X12 (i/3)) x) (hy:Mem (sel3 Y01 Y11 Y21 (i%3)) (sel3 Y02 Y12 Y22 (i%3)) y):Mem al ah x/\Mem bl bh y:=by
 obtain ⟨p0,p1,q0,q1,q2⟩:=h
 constructor
 ·have hxc:Mem X01 X02 x\/Mem X11 X12 x:=by
   generalize i/3=k at hx
   cases k
   ·exact Or.inl hx
   ·exact Or.inr hx
  rw [mem_of p0,mem_of p1] at hxc
  rcases hxc with h | h<;>exact h.1
 ·have hyc:Mem Y01 Y02 y\/Mem Y11 Y12 y\/Mem Y21 Y22 y:=by
   generalize i%3=k at hy
   match k,hy with
   | 0,hy=>exact Or.inl hy
   | 1,hy=>exact Or.inr (Or.inl hy)
   | k+2,hy=>exact Or.inr (Or.inr hy)
  rw [mem_of q0,mem_of q1,mem_of q2] at hyc
  rcases hyc with h | h | h<;>exact h.1
theorem div_is {al ah bl bh X01 X02 X11 X12 Y01 Y02 Y11 Y12 Y21 Y22:Int} (h:Parts al ah bl bh X01 X02 X11 X12 Y01 Y02 Y11 Y12 Y21 Y22) (ha1:In64 al) (ha2:In64 ah) (hb1:In64 bl) (hb2:In64 bh) :
  (dvF X01 X02 X11 X12 Y01 Y02 Y11 Y12 Y21 Y22 6).1.1=(divI al ah bl bh).1/\(dvF X01 X02 X11 X12 Y01 Y02 Y11 Y12 Y21 Y22 6).1.2=(divI al ah bl bh).2.1/\(dvF X01 X02 X11 X12 Y01 Y02 Y11 Y12 Y21 Y22 6).2=(divI al ah bl bh).2.2:=by
 obtain ⟨d1,d2⟩:=dv_hull (parts_pf h ha1 ha2 hb1 hb2) 6 (by omega)
 have e1:Hull (DivS al ah bl bh) (dvF X01 X02 X11 X12 Y01 Y02 Y11 Y12 Y21 Y22 6).1.1 (dvF X01 X02 X11 X12 Y01 Y02 Y11 Y12 Y21 Y22 6).1.2:=by
  refine d1.congr fun v=>⟨?_,?_⟩
  ·rintro ⟨i,hi,x,y,hx,hy,h0,e⟩
   obtain ⟨m1,m2⟩:=parts_in h hx hy
   exact ⟨x,y,m1,m2,h0,e⟩
  ·rintro ⟨x,y,hx,hy,h0,e⟩
   obtain ⟨i,hi,m1,m2⟩:=parts_find h ha1 ha2 hb1 hb2 hx hy h0
   exact ⟨i,hi,x,y,m1,m2,h0,e⟩
 obtain ⟨u1,u2⟩:=e1.uniq (div_hull ha1 ha2 hb1 hb2)
 refine ⟨u1,u2,?_⟩
 rw [Bool.eq_iff_iff,d2,div_exact hb1 hb2 ha1 ha2]
 constructor
 ·intro g x y hx hy h0
  obtain ⟨i,hi,m1,m2⟩:=parts_find h ha1 ha2 hb1 hb2 hx hy h0
  exact g i hi x y m1 m2 h0
 ·intro g i hi x y hx hy h0
  obtain ⟨m1,m2⟩:=parts_in h hx hy
  exact g x y m1 m2 h0
theorem Jpdiv_any (al ah bl bh:Int) (w0 w:World) (hok:Ok w0 w) (ha1:In64 al) (ha2:In64 ah) (hb1:In64 bl) (hb2:In64 bh) :
  Calls Tryz.prog 208 #[.agg #[.int .i64 al,.int .i64 ah],.agg #[.int .i64 bl,.int .i64 bh]] w fun e w'=>e=.returned (.tuple #[.agg #[.int .i64 (divI al ah bl bh).1,.int .i64 (divI al ah bl bh).2.1],.bool (divI al ah bl bh).2.2])/\Ok w0 w':=by
 obtain ⟨⟨X01,X02⟩,h0⟩:∃ p,meetI al ah (-9223372036854775808) (-9223372036854775808)=p:=⟨_,rfl⟩
 obtain ⟨⟨X11,X12⟩,h1⟩:∃ p,meetI al ah (-9223372036854775807) 9223372036854775807=p:=⟨_,rfl⟩
 obtain ⟨⟨Y01,Y02⟩,h2⟩:∃ p,meetI bl bh (-9223372036854775808) (-2)=p:=⟨_,rfl⟩
 obtain ⟨⟨Y11,Y12⟩,h3⟩:∃ p,meetI bl bh (-1) (-1)=p:=⟨_,rfl⟩
 obtain ⟨⟨Y21,Y22⟩,h4⟩:∃ p,meetI bl bh 1 9223372036854775807=p:=⟨_,rfl⟩
 have hp:Parts al ah bl bh X01 X02 X11 X12 Y01 Y02 Y11 Y12 Y21 Y22:=⟨h0,h1,h2,h3,h4⟩
 obtain ⟨e1,e2,e3⟩:=div_is hp ha1 ha2 hb1 hb2
 rw [<-e1,<-e2,<-e3]
 exact (pdiv_x al ah bl bh X01 X02 X11 X12 Y01 Y02 Y11 Y12 Y21 Y22 w h0 h1 h2 h3 h4 (parts_facts hp ha1 ha2 hb1 hb2)).mono (fun e w' h=>⟨h.1,hok.step h.2⟩)
end
end Go.Proofs.YtnjmjnmhldhaoaaGreat
