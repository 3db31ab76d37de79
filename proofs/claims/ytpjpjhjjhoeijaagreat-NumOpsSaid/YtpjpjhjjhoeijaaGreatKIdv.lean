import Derived.Test.YtpjpjhjjhoeijaaGreatKImul
import Derived.Test.YtpjpjhjjhoeijaaGreatKIwid
set_option maxHeartbeats 8000000
set_option linter.all false
namespace Go.Proofs.YtpjpjhjjhoeijaaGreat
section
open Go.RowKit
def two (a b:Int):Nat->Int
 | 0=>a
 | _=>b
def quoI (x y:Int):Int:=wrap64 (x.tdiv y)
def corF (al ah bl bh:Int):Nat->Int×Int
 | 0=>(1,0)
 | m+1=>joinI (corF al ah bl bh m).1 (corF al ah bl bh m).2 (quoI (two al ah (m/2)) (two bl bh (m%2))) (quoI (two al ah (m/2)) (two bl bh (m%2)))
def rowI (l h:Int):Obj:=.cells #[.int .i64 l,.int .i64 h] 24
def CorInv (al ah bl bh:Int) (w wr:World) (O:Int×Int):Prop :=
 Ok w wr/\wr.heap[w.heap.size+1]?=some (rowI bl bh)/\wr.heap[w.heap.size+2]?=some (rowI 0 0)/\wr.heap[w.heap.size+6]?=some (rowI O.1 O.2)/\wr.heap[w.heap.size+7]?=some (.cells #[.int .i64 al,.int .i64 ah] 2)
theorem CorInv.ok {al ah bl bh:Int} {w wr w1:World} {O:Int×Int} (h:CorInv al ah bl bh w wr O) (hb:Ok wr w1):CorInv al ah bl bh w w1 O :=
 ⟨h.1.step hb,Ok.row' hb h.2.1,Ok.row' hb h.2.2.1,Ok.row' hb h.2.2.2.1,Ok.row' hb h.2.2.2.2⟩
theorem CorInv.set {al ah bl bh:Int} {w wr:World} {O:Int×Int} (h:CorInv al ah bl bh w wr O) (l k:Int):CorInv al ah bl bh w ((wr.setCell ⟨w.heap.size+6,0,none⟩ (.int .i64 l)).setCell ⟨w.heap.size+6,1,none⟩ (.int .i64 k)) (l,k):=by
 obtain ⟨h1,h2,h3,h4,h5⟩:=h
 refine ⟨(h1.set (show w.heap.size<=w.heap.size+6 by omega) _).set (show w.heap.size<=w.heap.size+6 by omega) _,?_,?_,row_set2 h4 _ _,?_⟩
 ·rw [heap_setCell_other _ _ _ _ (by simp),heap_setCell_other _ _ _ _ (by simp)];exact h2
 ·rw [heap_setCell_other _ _ _ _ (by simp),heap_setCell_other _ _ _ _ (by simp)];exact h3
 ·rw [heap_setCell_other _ _ _ _ (by simp),heap_setCell_other _ _ _ _ (by simp)];exact h5
theorem two_cell {w:World} {g k:Nat} {a b:Int} {t:TypeId} (h:w.heap[g]?=some (.cells #[.int .i64 a,.int .i64 b] t (0,0))) (hk:k<2):w.cell? ⟨g,k,none⟩=some (.int .i64 (two a b k)):=by
 rw [cell_of_row _ _ _ _ _ _ h]
 match k,hk with
 | 0,_=>rfl
 | 1,_=>rfl
theorem rcorners_c (al ah bl bh:Int) (w:World) (ha:al<=ah) (hb:bl<=bh) (hb0:bl≠0) (hb1:bh≠0) :
  Calls Tryz.prog 119 #[.agg #[.int .i64 al,.int .i64 ah],.agg #[.int .i64 bl,.int .i64 bh]] w fun e w'=>e=.returned (.agg #[.int .i64 (corF al ah bl bh 4).1,.int .i64 (corF al ah bl bh 4).2])/\Ok w w':=by
 have d:decide (ah<al)=false:=decide_eq_false (by omega)
 have d2:decide (bh<bl)=false:=decide_eq_false (by omega)
 go_enter Tryz.func119,Tryz.ntmps119
 go_wp2_with (first | (go_at_call 100;refine (rempty_ex _ _ _).mono ?_;rintro e w' ⟨rfl,rfl⟩) | (go_at_call 101;refine (rnone_any _).mono ?_;rintro e w' ⟨rfl,rfl⟩) | fail)
 have HS:Hid (CorInv al ah bl bh w ((((((((w.alloc (.cells #[.int .i64 al,.int .i64 ah] 24)).alloc (.cells #[.int .i64 bl,.int .i64 bh] 24)).alloc (.cells #[.int .i64 0,.int .i64 0] 24)).alloc (.cells #[.int .i64 al,.int .i64 ah] 24)).alloc (.cells #[.int .i64 bl,.int .i64 bh] 24)).alloc (.cells #[.int .i64 1,.int .i64 0] 24)).alloc (.cells #[.int .i64 1,.int .i64 0] 24)).alloc (.cells #[.int .i64 al,.int .i64 ah] 2)) (corF al ah bl bh 0)) :=
  ⟨(by repeat (first | exact Ok.refl _ | refine Ok.alloc ?_ _ | fail)),jj,jj,jj,jj⟩
 go_loopw [24] (fun i wr=>∃ k:Nat,k<=2/\i=.int .i64 k/\Hid (CorInv al ah bl bh w wr (corF al ah bl bh (2*k)))) (fun i _=>(2-intOf i).toNat)
 case atStart=>exact ⟨0,by omega,rfl,HS⟩
 case round =>
  obtain ⟨k,hk,rfl,HI⟩:=hrel
  clear HS
  by_cases hk1:k<2
  ·have hk2:(k:Int)<2:=by omega
   have cx:=two_cell HI.out.2.2.2.2 hk1
   obtain ⟨b0,b1,_,_⟩:=row_facts HI.out.2.1
   have sz:=lt_row HI.out.2.2.2.2
   have HY:Hid (∀ j,two bl bh j≠0):=by
    intro j;unfold two;split<;>assumption
   generalize hx:two al ah k=x at *
   have HX:Hid _:=hx
   clear hx
   go_wp2_with fail
   obtain ⟨g2,hg2⟩:∃ g2,g2=wr.heap.size:=⟨_,rfl⟩
   have HS:Hid (CorInv al ah bl bh w (wr.alloc (.cells #[.int .i64 bl,.int .i64 bh] 2)) (corF al ah bl bh (2*k+0))/\(wr.alloc (.cells #[.int .i64 bl,.int .i64 bh] 2)).heap[g2]?=some (.cells #[.int .i64 bl,.int .i64 bh] 2)) :=
    ⟨HI.out.ok ((Ok.refl _).alloc _),heap_at _ _ _ hg2⟩
   have HG:Hid (w.heap.size+7<g2):=by rw [hg2];exact sz
   rw [<-hg2]
   clear hg2 sz b0 b1 cx HI
   obtain ⟨W1,hW1⟩:∃ W1,W1=wr.alloc (.cells #[.int .i64 bl,.int .i64 bh] 2):=⟨_,rfl⟩
   rw [<-hW1] at HS ⊢
   clear hW1
   go_loopw [34] (fun i v=>∃ j:Nat,j<=2/\i=.int .i64 j/\Hid (CorInv al ah bl bh w v (corF al ah bl bh (2*k+j))/\v.heap[g2]?=some (.cells #[.int .i64 bl,.int .i64 bh] 2))) (fun i _=>(2-intOf i).toNat)
   case atStart=>exact ⟨0,by omega,rfl,HS⟩
   case round =>
    obtain ⟨j,hj,rfl,HJ⟩:=hrel
    clear HS
    by_cases hj1:j<2
    ·have hj2:(j:Int)<2:=by omega
     have cy:=two_cell HJ.out.2 hj1
     obtain ⟨o0,o1,o2,o3⟩:=row_facts HJ.out.1.2.2.2.1
     have hy0:¬two bl bh j=0:=HY.out j
     have hy1:(two bl bh j==0)=false:=by rw [beq_eq_false_iff_ne];exact hy0
     have HSt:Hid (corF al ah bl bh (2*k+(j+1))=joinI (corF al ah bl bh (2*k+j)).1 (corF al ah bl bh (2*k+j)).2 (quoI x (two bl bh j)) (quoI x (two bl bh j))):=by
      unfold Hid
      rw [show 2*k+(j+1)=(2*k+j)+1 by omega,corF,show (2*k+j)/2=k by omega,show (2*k+j)%2=j by omega,HX.out]
     obtain ⟨O,hO⟩:∃ O,O=corF al ah bl bh (2*k+j):=⟨_,rfl⟩
     rw [<-hO] at HJ HSt o0 o1
     have HO:Hid _:=hO
     clear hO
     generalize two bl bh j=y at *
     have hbx:Ok wr wr:=Ok.refl _
     have hby:Ok wr wr.drew:=Below.drew (Ok.refl _)
     have hsz:=lt_row HJ.out.2
     go_wp2_with fail
     go_region_with (first | (go_at_call 121;refine (rjoin_any _ _ _ _ wr _ (by assumption)).mono ?_;rintro e w3 ⟨rfl,hb3⟩;have HK:Hid _:=And.intro (CorInv.ok HJ.out.1 hb3) (Ok.row' hb3 HJ.out.2);obtain ⟨o0',o1',o2',o3'⟩:=row_facts HK.out.1.2.2.2.1) | fail)
     go_wp2_with fail
     go_roundw
     case rel =>
      refine ⟨j+1,by omega,rfl,?_⟩
      rw [HSt.out]
      have hq:IntKind.i64.wrap (x.tdiv y)=quoI x y:=Go.IntWalk.i64_left _
      try rw [hq]
      have hq2:wrap64 (x.tdiv y)=quoI x y:=rfl
      try rw [hq2]
      refine ⟨HK.out.1.set _ _,?_⟩
      rw [heap_setCell_other _ _ _ _ (show g2≠w.heap.size+6 by have:=HG.out;omega),heap_setCell_other _ _ _ _ (show g2≠w.heap.size+6 by have:=HG.out;omega)]
      exact HK.out.2
     case measure=>simp only [intOf];omega
    ·have hj2:j=2:=by omega
     subst hj2
     go_wp2_with fail
     refine ⟨⟨k+1,by omega,rfl,?_⟩,by simp only [intOf];omega⟩
     exact HJ.out.1
  ·have hk2:k=2:=by omega
   subst hk2
   obtain ⟨o0,o1,o2,o3⟩:=row_facts HI.out.2.2.2.1
   obtain ⟨p0,p1,p2,p3⟩:=row_facts HI.out.2.2.1
   go_wp2_with fail
   (try simp only [Exit.inBlock,Exit.then])
   refine bodyPost_ret (results_cell_row rfl _ _ (w.heap.size+2) 24 #[_,_] (0,0) _ rfl (row_set2 HI.out.2.2.1 _ _) Tryz.underlying24 rfl infoI) rfl ?_
   exact ⟨rfl,(HI.out.1.set (show w.heap.size<=w.heap.size+2 by omega) _).set (show w.heap.size<=w.heap.size+2 by omega) _⟩
theorem joinI_one (q:Int):joinI 1 0 q q=(q,q):=by unfold joinI normI;simp
theorem joinI_two (l h q:Int) (hl:l<=h):joinI l h q q=(min l q,max h q):=by
 unfold joinI;rw [if_neg (by omega),if_neg (by omega)]
def cornersI (al ah bl bh:Int):Int×Int :=
 if ah<al\/bh<bl then (1,0) else (min4 (quoI al bl) (quoI al bh) (quoI ah bl) (quoI ah bh),max4 (quoI al bl) (quoI al bh) (quoI ah bl) (quoI ah bh))
theorem corF_end (al ah bl bh:Int):corF al ah bl bh 4=(min4 (quoI al bl) (quoI al bh) (quoI ah bl) (quoI ah bh),max4 (quoI al bl) (quoI al bh) (quoI ah bl) (quoI ah bh)):=by
 have h1:corF al ah bl bh 1=(quoI al bl,quoI al bl):=joinI_one _
 have h2:corF al ah bl bh 2=(min (quoI al bl) (quoI al bh),max (quoI al bl) (quoI al bh)):=by
  rw [corF,h1];exact joinI_two _ _ _ (Int.le_refl _)
 have h3:corF al ah bl bh 3=(min (min (quoI al bl) (quoI al bh)) (quoI ah bl),max (max (quoI al bl) (quoI al bh)) (quoI ah bl)):=by
  rw [corF,h2];exact joinI_two _ _ _ (by simp only;omega)
 rw [corF,h3]
 refine (joinI_two _ _ _ (by simp only;omega)).trans ?_
 show (min (min (min (quoI al bl) (quoI al bh)) (quoI ah bl)) (quoI ah bh),max (max (max (quoI al bl) (quoI al bh)) (quoI ah bl)) (quoI ah bh))=_
 unfold min4 max4
 congr 1<;>omega
theorem rcorners_any (al ah bl bh:Int) (w0 w:World) (hok:Ok w0 w) (hb0:bl<=bh->bl≠0/\bh≠0) :
  Calls Tryz.prog 119 #[.agg #[.int .i64 al,.int .i64 ah],.agg #[.int .i64 bl,.int .i64 bh]] w fun e w'=>e=.returned (.agg #[.int .i64 (cornersI al ah bl bh).1,.int .i64 (cornersI al ah bl bh).2])/\Ok w0 w':=by
 by_cases ha:ah<al
 ·have E:Hid (cornersI al ah bl bh=(1,0)):=by unfold Hid cornersI;rw [if_pos (Or.inl ha)]
  have d:decide (ah<al)=true:=decide_eq_true ha
  go_enter Tryz.func119,Tryz.ntmps119
  go_wp2_with (first | (go_at_call 100;refine (rempty_ex _ _ _).mono ?_;rintro e w' ⟨rfl,rfl⟩) | (go_at_call 101;refine (rnone_any _).mono ?_;rintro e w' ⟨rfl,rfl⟩) | fail)
  (try simp only [Exit.inBlock, Exit.then]); refine bodyPost_ret (results_cell_row rfl _ _ (w.heap.size+2) 24 #[_, _] (0, 0) _ rfl jj Tryz.underlying24 rfl infoI) rfl ?_
  exact ⟨reti E.out,(by repeat (first | exact hok | refine Ok.alloc ?_ _ | refine Ok.draws ?_ _ | fail))⟩
 ·by_cases hb:bh<bl
  ·have E:Hid (cornersI al ah bl bh=(1,0)):=by unfold Hid cornersI;rw [if_pos (Or.inr hb)]
   have d:decide (ah<al)=false:=decide_eq_false ha
   have d2:decide (bh<bl)=true:=decide_eq_true hb
   go_enter Tryz.func119,Tryz.ntmps119
   go_wp2_with (first | (go_at_call 100;refine (rempty_ex _ _ _).mono ?_;rintro e w' ⟨rfl,rfl⟩) | (go_at_call 101;refine (rnone_any _).mono ?_;rintro e w' ⟨rfl,rfl⟩) | fail)
   (try simp only [Exit.inBlock, Exit.then]); refine bodyPost_ret (results_cell_row rfl _ _ (w.heap.size+2) 24 #[_, _] (0, 0) _ rfl jj Tryz.underlying24 rfl infoI) rfl ?_
   exact ⟨reti E.out,(by repeat (first | exact hok | refine Ok.alloc ?_ _ | refine Ok.draws ?_ _ | fail))⟩
  ·obtain ⟨h0,h1⟩:=hb0 (by omega)
   have E:cornersI al ah bl bh=corF al ah bl bh 4:=by rw [corF_end];unfold cornersI;rw [if_neg (by omega)]
   rw [E]
   exact (rcorners_c al ah bl bh w (by omega) (by omega) h0 h1).mono (fun e w' h=>⟨h.1,hok.step h.2⟩)
end
section
open Go.RowKit
def J (p q:Int×Int):Int×Int:=joinI p.1 p.2 q.1 q.2
def M (p q:Int×Int):Int×Int:=meetI p.1 p.2 q.1 q.2
def C (p q:Int×Int):Int×Int:=cornersI p.1 p.2 q.1 q.2
def upI (bl bh:Int):Int×Int:=meetI bl bh 1 9223372036854775807
def dnI (bl bh:Int):Int×Int:=meetI bl bh (-9223372036854775808) (-1)
def divA (al ah bl bh:Int):Int×Int:=cornersI al ah (upI bl bh).1 (upI bl bh).2
def divI (al ah bl bh:Int):Int×Int×Bool :=
 if ah<al\/bh<bl then (1,0,true)
 else if hasI al ah (-9223372036854775808)=true/\hasI (dnI bl bh).1 (dnI bl bh).2 (-1)=true then
  ((J (J (J (divA al ah bl bh) (-9223372036854775808,-9223372036854775808)) (C (meetI al ah (-9223372036854775807) 9223372036854775807) (dnI bl bh))) (C (-9223372036854775808,-9223372036854775808) (meetI (dnI bl bh).1 (dnI bl bh).2 (-9223372036854775808) (-2)))).1,
  (J (J (J (divA al ah bl bh) (-9223372036854775808,-9223372036854775808)) (C (meetI al ah (-9223372036854775807) 9223372036854775807) (dnI bl bh))) (C (-9223372036854775808,-9223372036854775808) (meetI (dnI bl bh).1 (dnI bl bh).2 (-9223372036854775808) (-2)))).2,false)
 else ((J (divA al ah bl bh) (C (al,ah) (dnI bl bh))).1,(J (divA al ah bl bh) (C (al,ah) (dnI bl bh))).2,true)
theorem normI_cases (l h:Int):(h<l/\normI l h=(1,0))\/(l<=h/\normI l h=(l,h)):=by
 unfold normI
 by_cases c:h<l
 ·rw [if_pos c];exact Or.inl ⟨c,rfl⟩
 ·rw [if_neg c];exact Or.inr ⟨by omega,rfl⟩
theorem up_nz (bl bh:Int):(upI bl bh).1<=(upI bl bh).2->(upI bl bh).1≠0/\(upI bl bh).2≠0:=by
 unfold upI meetI
 rcases normI_cases (max bl 1) (min bh 9223372036854775807) with ⟨_,e⟩ | ⟨_,e⟩<;>rw [e]<;>simp only<;>omega
theorem dn_nz (bl bh:Int):(dnI bl bh).1<=(dnI bl bh).2->(dnI bl bh).1≠0/\(dnI bl bh).2≠0:=by
 unfold dnI meetI
 rcases normI_cases (max bl (-9223372036854775808)) (min bh (-1)) with ⟨_,e⟩ | ⟨_,e⟩<;>rw [e]<;>simp only<;>omega
theorem dn2_nz (l h:Int):(meetI l h (-9223372036854775808) (-2)).1<=(meetI l h (-9223372036854775808) (-2)).2->(meetI l h (-9223372036854775808) (-2)).1≠0/\(meetI l h (-9223372036854775808) (-2)).2≠0:=by
 unfold meetI
 rcases normI_cases (max l (-9223372036854775808)) (min h (-2)) with ⟨_,e⟩ | ⟨_,e⟩<;>rw [e]<;>simp only<;>omega
def One (W w1:World) (g:Nat) (o:Obj):Prop:=Ok W w1/\w1.heap[g]?=some o/\W.heap.size<=g
theorem one_a {W w2:World} {o:Obj} (h:Ok W w2):One W (w2.alloc o) w2.heap.size o:=⟨h.alloc _,heap_new0 _ _,h.le⟩
theorem one_b {W w2:World} {g:Nat} {u v x y:Value} {t:TypeId} (h:Ok W w2) (hg:w2.heap[g]?=some (.cells #[u,v] t (0,0))) (hW:W.heap.size<=g) :
  One W ((w2.setCell ⟨g,0,none⟩ x).setCell ⟨g,1,none⟩ y) g (.cells #[x,y] t (0,0)) :=
 ⟨(h.set hW _).set hW _,row_set2 hg _ _,hW⟩
theorem rhas_ex (l h v:Int) (w:World) :
  Calls Tryz.prog 65 #[.agg #[.int .i64 l,.int .i64 h],.int .i64 v] w fun e w'=>e=.returned (.bool (hasI l h v))/\w'=w.alloc (.cells #[.int .i64 l,.int .i64 h] 24):=by
 go_enter Tryz.func65,Tryz.ntmps65
 go_wp2
 all_goals go_ret
 all_goals refine ⟨retb ?_,rfl⟩
 ·unfold hasI;simp [*]
 ·unfold hasI;rename_i h0;rw [decide_eq_false (show ¬l<=v by omega),Bool.false_and]
def NP (R:Act->World->Prop):Exit->Act->World->Prop
 | .normal,a,w=>R a w
 | _,_,_=>False
theorem wp_cut2 {P:Program} {c:Code} {Q:Exit->Act->World->Prop} {a:Act} {w:World} (R:Act->World->Prop) (h1:c.wp P (NP R) a w) (h2:∀ a' w',R a' w'->Q .normal a' w'):c.wp P Q a w :=
 Code.wp_mono (fun e a w h=>by cases e<;>first | exact h2 _ _ h | exact (h:False).elim) h1
theorem rdiv_c (al ah bl bh:Int) (w:World) (ha:al<=ah) (hb:bl<=bh) :
  Calls Tryz.prog 41 #[.agg #[.int .i64 al,.int .i64 ah],.agg #[.int .i64 bl,.int .i64 bh]] w fun e w'=>e=.returned (.tuple #[.agg #[.int .i64 (divI al ah bl bh).1,.int .i64 (divI al ah bl bh).2.1],.bool (divI al ah bl bh).2.2])/\Ok w w':=by
 have d:decide (ah<al)=false:=decide_eq_false (by omega)
 have d2:decide (bh<bl)=false:=decide_eq_false (by omega)
 go_enter Tryz.func41,Tryz.ntmps41
 go_wp2_with (first | (go_at_call 100;refine (rempty_ex _ _ _).mono ?_;rintro e w' ⟨rfl,rfl⟩) | fail)
 obtain ⟨W,hW⟩:∃ W,W=((((w.alloc (.cells #[.int .i64 al,.int .i64 ah] 24)).alloc (.cells #[.int .i64 bl,.int .i64 bh] 24)).alloc (.cells #[.int .i64 0,.int .i64 0] 24)).alloc (.cells #[.int .i64 al,.int .i64 ah] 24)).alloc (.cells #[.int .i64 bl,.int .i64 bh] 24):=⟨_,rfl⟩
 have ra:W.heap[w.heap.size]?=some (.cells #[.int .i64 al,.int .i64 ah] 24):=by rw [hW];exact jj
 have rb:W.heap[w.heap.size+1]?=some (.cells #[.int .i64 bl,.int .i64 bh] 24):=by rw [hW];exact jj
 have rr:W.heap[w.heap.size+2]?=some (.cells #[.int .i64 0,.int .i64 0] 24):=by rw [hW];exact jj
 have hokW:Ok w W:=by rw [hW];exact (by repeat (first | exact Ok.refl _ | refine Ok.alloc ?_ _ | fail))
 have hsz:w.heap.size+3<=W.heap.size:=by rw [hW];simp
 rw [<-hW]
 clear hW
 obtain ⟨c0,c1,_,_⟩:=row_facts ra
 obtain ⟨c2,c3,_,_⟩:=row_facts rb
 have g0:w.heap.size<W.heap.size:=by omega
 have g1:w.heap.size+1<W.heap.size:=by omega
 have HRR:Hid _:=rr
 have HRA0:Hid _:=ra
 clear ra rb rr
 have hn0:¬w.heap.size=W.heap.size:=by omega
 have hn1:¬w.heap.size+1=W.heap.size:=by omega
 have hm0:¬W.heap.size=w.heap.size:=by omega
 have hm1:¬W.heap.size=w.heap.size+1:=by omega
 have htok:Hid True:=trivial
 refine wp_cut (fun a1 w1=>∃ g,a1=⟨#[Value.agg #[Value.int IntKind.i64 al,Value.int IntKind.i64 ah],Value.agg #[Value.int IntKind.i64 bl,Value.int IntKind.i64 bh],Value.pointer (some { block:=w.heap.size,off:=0 }),Value.pointer (some { block:=w.heap.size+1,off:=0 }),Value.pointer (some { block:=w.heap.size+1+1,off:=0 }),Value.bool false,Value.pointer (some { block:=g,off:=0 }),undef,undef,Value.agg #[Value.int IntKind.i64 al,Value.int IntKind.i64 ah],Value.bool false,Value.bool false,Value.agg #[Value.int IntKind.i64 bl,Value.int IntKind.i64 bh],Value.bool false,Value.bool false,undef,Value.agg #[Value.int IntKind.i64 al,Value.int IntKind.i64 ah],Value.agg #[Value.int IntKind.i64 bl,Value.int IntKind.i64 bh],Value.agg #[Value.int IntKind.i64 1,Value.int IntKind.i64 9223372036854775807],Value.agg #[Value.int IntKind.i64 (meetI bl bh 1 9223372036854775807).fst,Value.int IntKind.i64 (meetI bl bh 1 9223372036854775807).snd],Value.agg #[Value.int IntKind.i64 (divA al ah bl bh).fst,Value.int IntKind.i64 (divA al ah bl bh).snd],undef,undef,undef,undef,undef,undef,undef,undef,undef,undef,undef,undef,undef,undef,undef,undef,undef,undef,undef,undef,undef,undef,undef,undef,undef,undef,undef,undef,undef,undef,undef,undef,undef],[]⟩/\One W w1 g (rowI (divA al ah bl bh).1 (divA al ah bl bh).2)) ?_ ?_
 ·go_region_held3 (fun w'=>w'.cell? ⟨w.heap.size,0,none⟩=some (.int .i64 al)/\w'.cell? ⟨w.heap.size,1,none⟩=some (.int .i64 ah)/\w'.cell? ⟨w.heap.size+1,0,none⟩=some (.int .i64 bl)/\w'.cell? ⟨w.heap.size+1,1,none⟩=some (.int .i64 bh)) (go_keep)
   (first
   | (go_at_call 120;clear htok;refine (rmeet_any _ _ _ _ _ _ (Ok.refl _)).mono ?_;rintro e w' ⟨rfl,hb⟩;(first | (have hq:=okA1 hb;obtain ⟨hbW,hrA⟩:=hq;obtain ⟨x0,x1,x2,x3⟩:=row_facts hrA;have x4:=lt_row hrA;have HRA:Hid _:=hrA;clear hrA) | (have hbW:=okA0 hb));have d0:=Ok.cell hbW g0 c0;have d1:=Ok.cell hbW g0 c1;have d2:=Ok.cell hbW g1 c2;have d3:=Ok.cell hbW g1 c3;have hz:=Ok.le hbW;have hz0:w.heap.size<w'.heap.size:=(by omega);have hz1:w.heap.size+1<w'.heap.size:=(by omega);have hx0:¬w.heap.size=w'.heap.size:=(by omega);have hy0:¬w'.heap.size=w.heap.size:=(by omega);have hy1:¬w'.heap.size=w.heap.size+1:=(by omega);have hx1:¬w.heap.size+1=w'.heap.size:=(by omega))
   | (go_at_call 119;refine (rcorners_any _ _ _ _ _ _ (Ok.refl _) (up_nz bl bh)).mono ?_;rintro e w2 ⟨rfl,hb⟩;(first | (have hq:=okB1 hb;obtain ⟨hb12,hrC⟩:=hq;obtain ⟨z0,z1,z2,z3⟩:=row_facts hrC;have z4:=lt_row hrC;have HRC:Hid _:=hrC;clear hrC) | (have hb12:Ok w' w2:=hb));have hbW2:=Ok.step hbW hb12;have hl12:=Ok.le hb12;(try (have hrA:=Ok.row' hb12 HRA.out;obtain ⟨x0',x1',x2',x3'⟩:=row_facts hrA;have x4':=lt_row hrA;have HA2:Hid _:=hrA;clear hrA));have d0':=Ok.cell hbW2 g0 c0;have d1':=Ok.cell hbW2 g0 c1;have d2':=Ok.cell hbW2 g1 c2;have d3':=Ok.cell hbW2 g1 c3;have hz':=Ok.le hbW2;have hz0:w.heap.size<w2.heap.size:=(by omega);have hz1:w.heap.size+1<w2.heap.size:=(by omega);have hx0:¬w.heap.size=w2.heap.size:=(by omega);have hy0:¬w2.heap.size=w.heap.size:=(by omega);have hy1:¬w2.heap.size=w.heap.size+1:=(by omega);have hx1:¬w.heap.size+1=w2.heap.size:=(by omega))
   | fail)
  all_goals (refine ⟨rfl,_,rfl,?_⟩;unfold rowI divA;first | (with_reducible exact one_a hbW2) | ((with_reducible refine one_b hbW2 HA2.out ?_)<;>omega) | ((with_reducible refine one_b hbW2 HRC.out ?_)<;>omega) | fail)
 ·rintro a1 w1 ⟨g,rfl,hT⟩
  have HT:Hid _:=hT
  clear hT
  have hbW:=HT.out.1
  have d0:=Ok.cell hbW g0 c0;have d1:=Ok.cell hbW g0 c1;have d2:=Ok.cell hbW g1 c2;have d3:=Ok.cell hbW g1 c3
  have HC:Hid _:=And.intro c0 (And.intro c1 (And.intro c2 c3))
  have hle1:=hbW.le
  clear c0 c1 c2 c3 hn0 hn1 hm0 hm1 htok
  simp only [Exit.then]
  have HD:Hid (dnI bl bh=meetI bl bh (-9223372036854775808) (-1)):=rfl
  go_wp2_with fail
  refine (rmeet_any _ _ _ _ w1 _ (Ok.refl _)).mono ?_
  rintro e w4 ⟨rfl,hb4⟩
  rw [<-HD.out]
  have hbW4:=Ok.step hbW hb4
  have e0:=Ok.cell hbW4 g0 HC.out.1;have e1:=Ok.cell hbW4 g0 HC.out.2.1
  have ra:=Ok.row' hb4 HT.out.2.1
  obtain ⟨q0,q1,_,_⟩:=row_facts ra
  have hge:=lt_row ra
  have hle4:=hbW4.le
  have HA4:Hid _:=ra
  clear d0 d1 d2 d3 ra
  have z0:w.heap.size<w4.heap.size:=by omega
  have z1:¬w.heap.size=w4.heap.size:=by omega
  have z2:¬g=w4.heap.size:=by omega
  have z3:g<w4.heap.size+1:=by omega
  have z4:g<w4.heap.size+1+1:=by omega
  have z5:¬g=w4.heap.size+1:=by omega
  have z6:¬g=w4.heap.size+1+1:=by omega
  by_cases hA:hasI al ah (-9223372036854775808)=true
  ·by_cases hB:hasI (dnI bl bh).1 (dnI bl bh).2 (-1)=true
   ·have E:Hid (divI al ah bl bh=((J (J (J (divA al ah bl bh) (-9223372036854775808,-9223372036854775808)) (C (meetI al ah (-9223372036854775807) 9223372036854775807) (dnI bl bh))) (C (-9223372036854775808,-9223372036854775808) (meetI (dnI bl bh).1 (dnI bl bh).2 (-9223372036854775808) (-2)))).1,
      (J (J (J (divA al ah bl bh) (-9223372036854775808,-9223372036854775808)) (C (meetI al ah (-9223372036854775807) 9223372036854775807) (dnI bl bh))) (C (-9223372036854775808,-9223372036854775808) (meetI (dnI bl bh).1 (dnI bl bh).2 (-9223372036854775808) (-2)))).2,false)):=by
     unfold Hid divI
     rw [if_neg (by omega),if_pos ⟨hA,hB⟩]
    go_wp2_with (first | (go_at_call 65;refine (rhas_ex _ _ _ _).mono ?_;rintro e w' ⟨rfl,rfl⟩) | fail)
    obtain ⟨X,hX⟩:∃ X,X=((w4.alloc (.cells #[.int .i64 (dnI bl bh).1,.int .i64 (dnI bl bh).2] 24)).alloc (.cells #[.int .i64 al,.int .i64 ah] 24)).alloc (.cells #[.int .i64 (dnI bl bh).1,.int .i64 (dnI bl bh).2] 24):=⟨_,rfl⟩
    have okX:Ok w4 X:=by rw [hX];exact (by repeat (first | exact Ok.refl _ | refine Ok.alloc ?_ _ | fail))
    have rd:X.heap[w4.heap.size]?=some (rowI (dnI bl bh).1 (dnI bl bh).2):=by rw [hX];exact jj
    rw [<-hX]
    clear hX
    have okWX:=Ok.step hbW4 okX
    have rg:=Ok.row' okX HA4.out
    have rr:=Ok.row' okWX HRR.out
    have ra:=Ok.row' okWX HRA0.out
    obtain ⟨a0,a1,_,_⟩:=row_facts ra
    obtain ⟨u0,u1,_,_⟩:=row_facts rg
    obtain ⟨v0,v1,_,_⟩:=row_facts rd
    have y0:=lt_row ra
    have y1:=lt_row rg
    have y2:=lt_row rd
    have HX:Hid _:=And.intro rr okWX
    clear e0 e1 q0 q1 ra rg rd rr okX
    have bx:Ok X X:=Ok.refl _
    have by':Ok X X.drew:=Below.drew (Ok.refl _)
    have hGW:=HT.out.2.2
    have m0:¬w.heap.size+1+1=w.heap.size:=by omega
    have m1:¬w.heap.size+1+1=g:=by omega
    have m2:¬w.heap.size+1+1=w4.heap.size:=by omega
    refine (rjoin_any _ _ _ _ X X bx).mono ?_
    rintro e w7 ⟨rfl,hb7⟩
    have okW7:=Ok.step HX.out.2 hb7
    have ra7:=Ok.row' okW7 HRA0.out
    have rr7:=Ok.row' okW7 HRR.out
    have vd0:=Ok.cell hb7 y2 v0
    have vd1:=Ok.cell hb7 y2 v1
    obtain ⟨a0',a1',_,_⟩:=row_facts ra7
    have s7:=hb7.le
    have n0:w.heap.size<w7.heap.size:=by omega
    have n1:¬w.heap.size=w7.heap.size:=by omega
    have n2:w4.heap.size<w7.heap.size:=by omega
    have n3:¬w4.heap.size=w7.heap.size:=by omega
    go_wp2_with fail
    obtain ⟨go,hgo⟩:∃ go,go=w7.heap.size:=⟨_,rfl⟩
    obtain ⟨O,hO⟩:∃ O,O=(joinI (divA al ah bl bh).1 (divA al ah bl bh).2 (-9223372036854775808) (-9223372036854775808)):=⟨_,rfl⟩
    rw [<-hO]
    obtain ⟨Y,hY⟩:∃ Y,Y=w7.alloc (.cells #[.int .i64 O.1,.int .i64 O.2] 24):=⟨_,rfl⟩
    have ok7Y:Ok w7 Y:=by rw [hY];exact (Ok.refl _).alloc _
    have ro:Y.heap[go]?=some (rowI O.1 O.2):=by rw [hY];exact heap_at _ _ _ hgo
    rw [<-hY,<-hgo]
    have okWY:=Ok.step okW7 ok7Y
    have raY:=Ok.row' ok7Y ra7
    have rrY:=Ok.row' ok7Y rr7
    obtain ⟨m0',m1',_,_⟩:=row_facts raY
    obtain ⟨m2',m3',k2',k3'⟩:=row_facts ro
    have m4':=Ok.cell ok7Y n2 vd0
    have m5':=Ok.cell ok7Y n2 vd1
    have t0:=lt_row raY
    have t1:=lt_row ro
    have t2:w4.heap.size<Y.heap.size:=by have:=ok7Y.le;omega
    have HO:Hid _:=ro
    have HE:Hid _:=hO
    have HYY:Hid _:=And.intro rrY okWY
    have HGO:Hid (w7.heap.size<=go):=by rw [hgo];exact Nat.le_refl _
    have s0:¬go=w.heap.size:=by omega
    have s1:¬go=w4.heap.size:=by omega
    have s2:¬w.heap.size=go:=by omega
    have s3:¬w4.heap.size=go:=by omega
    have s4:¬w.heap.size+1+1=go:=by omega
    have s5:¬go=w.heap.size+1+1:=by omega
    clear a0' a1' vd0 vd1 n1 n3 hgo hO hY ra7 rr7 raY rrY ro a0 a1 u0 u1 v0 v1 y0 y1 y2 bx by'
    have HL4:Hid (W.heap.size<=w4.heap.size):=hle4
    have HQ:Hid _:=And.intro hokW (And.intro hsz (And.intro okWY (And.intro HT.out.2.2 (And.intro hb7 okW7))))
    clear d d2 g0 g1 hbW hle1 hbW4 hge hle4 z0 z1 z2 z3 z4 z5 z6 hA hB hGW m0 m1 m2 s7 n0 n2 okWY okW7 hb7 hokW hsz hb4 okWX ok7Y s4 s5
    have bY:Ok Y Y:=Ok.refl _
    have bY':Ok Y Y.drew:=Below.drew (Ok.refl _)
    refine wp_cut2 (fun a1 w1=>a1=⟨#[Value.agg #[Value.int IntKind.i64 al,Value.int IntKind.i64 ah],Value.agg #[Value.int IntKind.i64 bl,Value.int IntKind.i64 bh],Value.pointer (some { block:=w.heap.size,off:=0 }),Value.pointer (some { block:=w.heap.size+1,off:=0 }),Value.pointer (some { block:=w.heap.size+1+1,off:=0 }),Value.bool false,Value.pointer (some { block:=g,off:=0 }),Value.pointer (some { block:=w4.heap.size,off:=0 }),Value.pointer (some { block:=go,off:=0 }),Value.agg #[Value.int IntKind.i64 al,Value.int IntKind.i64 ah],Value.bool false,Value.bool false,Value.agg #[Value.int IntKind.i64 bl,Value.int IntKind.i64 bh],Value.bool false,Value.bool false,undef,Value.agg #[Value.int IntKind.i64 al,Value.int IntKind.i64 ah],Value.agg #[Value.int IntKind.i64 bl,Value.int IntKind.i64 bh],Value.agg #[Value.int IntKind.i64 1,Value.int IntKind.i64 9223372036854775807],Value.agg #[Value.int IntKind.i64 (meetI bl bh 1 9223372036854775807).fst,Value.int IntKind.i64 (meetI bl bh 1 9223372036854775807).snd],Value.agg #[Value.int IntKind.i64 (divA al ah bl bh).fst,Value.int IntKind.i64 (divA al ah bl bh).snd],Value.agg #[Value.int IntKind.i64 bl,Value.int IntKind.i64 bh],Value.agg #[Value.int IntKind.i64 (-9223372036854775808),Value.int IntKind.i64 (-1)],Value.agg #[Value.int IntKind.i64 (dnI bl bh).fst,Value.int IntKind.i64 (dnI bl bh).snd],Value.agg #[Value.int IntKind.i64 al,Value.int IntKind.i64 ah],Value.bool true,Value.bool false,Value.bool false,Value.agg #[Value.int IntKind.i64 (dnI bl bh).fst,Value.int IntKind.i64 (dnI bl bh).snd],Value.bool true,Value.bool false,Value.bool false,undef,undef,undef,undef,undef,Value.agg #[Value.int IntKind.i64 (divA al ah bl bh).fst,Value.int IntKind.i64 (divA al ah bl bh).snd],Value.agg #[Value.int IntKind.i64 (-9223372036854775808),Value.int IntKind.i64 (-9223372036854775808)],Value.agg #[Value.int IntKind.i64 O.fst,Value.int IntKind.i64 O.snd],Value.agg #[Value.int IntKind.i64 O.fst,Value.int IntKind.i64 O.snd],Value.agg #[Value.int IntKind.i64 al,Value.int IntKind.i64 ah],Value.agg #[Value.int IntKind.i64 (-9223372036854775807),Value.int IntKind.i64 9223372036854775807],Value.agg #[Value.int IntKind.i64 (meetI al ah (-9223372036854775807) 9223372036854775807).fst,Value.int IntKind.i64 (meetI al ah (-9223372036854775807) 9223372036854775807).snd],Value.agg #[Value.int IntKind.i64 (dnI bl bh).fst,Value.int IntKind.i64 (dnI bl bh).snd],Value.agg #[Value.int IntKind.i64 (cornersI (meetI al ah (-9223372036854775807) 9223372036854775807).fst (meetI al ah (-9223372036854775807) 9223372036854775807).snd (dnI bl bh).fst (dnI bl bh).snd).fst,Value.int IntKind.i64 (cornersI (meetI al ah (-9223372036854775807) 9223372036854775807).fst (meetI al ah (-9223372036854775807) 9223372036854775807).snd (dnI bl bh).fst (dnI bl bh).snd).snd],Value.agg #[Value.int IntKind.i64 (joinI O.fst O.snd (cornersI (meetI al ah (-9223372036854775807) 9223372036854775807).fst (meetI al ah (-9223372036854775807) 9223372036854775807).snd (dnI bl bh).fst (dnI bl bh).snd).fst (cornersI (meetI al ah (-9223372036854775807) 9223372036854775807).fst (meetI al ah (-9223372036854775807) 9223372036854775807).snd (dnI bl bh).fst (dnI bl bh).snd).snd).fst,Value.int IntKind.i64 (joinI O.fst O.snd (cornersI (meetI al ah (-9223372036854775807) 9223372036854775807).fst (meetI al ah (-9223372036854775807) 9223372036854775807).snd (dnI bl bh).fst (dnI bl bh).snd).fst (cornersI (meetI al ah (-9223372036854775807) 9223372036854775807).fst (meetI al ah (-9223372036854775807) 9223372036854775807).snd (dnI bl bh).fst (dnI bl bh).snd).snd).snd],undef,undef,undef,undef,undef,undef,undef],[]⟩/\∃ wm,Ok Y wm/\w1=(wm.setCell ⟨go,0,none⟩ (.int .i64 (joinI O.1 O.2 (cornersI (meetI al ah (-9223372036854775807) 9223372036854775807).1 (meetI al ah (-9223372036854775807) 9223372036854775807).2 (dnI bl bh).1 (dnI bl bh).2).1 (cornersI (meetI al ah (-9223372036854775807) 9223372036854775807).1 (meetI al ah (-9223372036854775807) 9223372036854775807).2 (dnI bl bh).1 (dnI bl bh).2).2).1)).setCell ⟨go,1,none⟩ (.int .i64 (joinI O.1 O.2 (cornersI (meetI al ah (-9223372036854775807) 9223372036854775807).1 (meetI al ah (-9223372036854775807) 9223372036854775807).2 (dnI bl bh).1 (dnI bl bh).2).1 (cornersI (meetI al ah (-9223372036854775807) 9223372036854775807).1 (meetI al ah (-9223372036854775807) 9223372036854775807).2 (dnI bl bh).1 (dnI bl bh).2).2).2)) ?_ ?_
    ·go_region_with (first
      | (go_at_call 120;refine (rmeet_any _ _ _ _ Y _ (by assumption)).mono ?_;rintro e wm ⟨rfl,hbm⟩;have f0:=Ok.cell hbm t0 m0';have f1:=Ok.cell hbm t0 m1';have f2:=Ok.cell hbm t1 m2';have f3:=Ok.cell hbm t1 m3';have f4:=Ok.cell hbm t2 m4';have f5:=Ok.cell hbm t2 m5';have HM:Hid _:=Ok.row' hbm HO.out;have f6:=(row_facts HM.out).2.2.1;have f7:=(row_facts HM.out).2.2.2)
      | (go_at_call 119;refine (rcorners_any _ _ _ _ Y _ (by assumption) (dn_nz bl bh)).mono ?_;rintro e wm ⟨rfl,hbm⟩;have f0:=Ok.cell hbm t0 m0';have f1:=Ok.cell hbm t0 m1';have f2:=Ok.cell hbm t1 m2';have f3:=Ok.cell hbm t1 m3';have f4:=Ok.cell hbm t2 m4';have f5:=Ok.cell hbm t2 m5';have HM:Hid _:=Ok.row' hbm HO.out;have f6:=(row_facts HM.out).2.2.1;have f7:=(row_facts HM.out).2.2.2)
      | (go_at_call 121;refine (rjoin_any _ _ _ _ Y _ (by assumption)).mono ?_;rintro e wm ⟨rfl,hbm⟩;have f0:=Ok.cell hbm t0 m0';have f1:=Ok.cell hbm t0 m1';have f2:=Ok.cell hbm t1 m2';have f3:=Ok.cell hbm t1 m3';have f4:=Ok.cell hbm t2 m4';have f5:=Ok.cell hbm t2 m5';have HM:Hid _:=Ok.row' hbm HO.out;have f6:=(row_facts HM.out).2.2.1;have f7:=(row_facts HM.out).2.2.2)
      | fail)
     all_goals exact ⟨rfl,_,hbm,rfl⟩
    ·rintro a1 w8 ⟨rfl,wm,hbm,rfl⟩
     obtain ⟨O2,hO2⟩:∃ O2,O2=(joinI O.1 O.2 (cornersI (meetI al ah (-9223372036854775807) 9223372036854775807).1 (meetI al ah (-9223372036854775807) 9223372036854775807).2 (dnI bl bh).1 (dnI bl bh).2).1 (cornersI (meetI al ah (-9223372036854775807) 9223372036854775807).1 (meetI al ah (-9223372036854775807) 9223372036854775807).2 (dnI bl bh).1 (dnI bl bh).2).2):=⟨_,rfl⟩
     rw [<-hO2]
     have rgo:=Ok.row' hbm HO.out
     have rre:=Ok.row' hbm HYY.out.1
     have f4:=Ok.cell hbm t2 m4'
     have f5:=Ok.cell hbm t2 m5'
     obtain ⟨p0,p1,p2,p3,p4,p5⟩:=HQ.out
     have hle7:W.heap.size<=w7.heap.size:=p5.le
     have hgw:=HGO.out
     obtain ⟨Z,hZ⟩:∃ Z,Z=(wm.setCell ⟨go,0,none⟩ (.int .i64 O2.1)).setCell ⟨go,1,none⟩ (.int .i64 O2.2):=⟨_,rfl⟩
     have okZ:Ok W Z:=by rw [hZ];exact ((Ok.step p2 hbm).set (show W.heap.size<=go by omega) _).set (show W.heap.size<=go by omega) _
     have rgZ:Z.heap[go]?=some (rowI O2.1 O2.2):=by rw [hZ];exact row_set2 rgo _ _
     have rrZ:Z.heap[w.heap.size+2]?=some (.cells #[.int .i64 0,.int .i64 0] 24):=by
      rw [hZ,heap_setCell_other _ _ _ _ (show w.heap.size+2≠go by omega),heap_setCell_other _ _ _ _ (show w.heap.size+2≠go by omega)];exact rre
     have v0:Z.cell? ⟨w4.heap.size,0,none⟩=some (.int .i64 (dnI bl bh).1):=by
      rw [hZ,World.cell?_setCell_far _ _ _ _ s1,World.cell?_setCell_far _ _ _ _ s1];exact f4
     have v1:Z.cell? ⟨w4.heap.size,1,none⟩=some (.int .i64 (dnI bl bh).2):=by
      rw [hZ,World.cell?_setCell_far _ _ _ _ s1,World.cell?_setCell_far _ _ _ _ s1];exact f5
     have y2:w4.heap.size<Z.heap.size:=block_lt_of_cell v0
     rw [<-hZ]
     clear hZ rgo rre f4 f5 m0' m1' m2' m3' m4' m5' k2' k3' t0 t1 t2 bY bY'
     obtain ⟨a0,a1,_,_⟩:=row_facts rgZ
     have y0:=lt_row rgZ
     have HZ:Hid _:=And.intro rrZ okZ
     have HW:Hid _:=And.intro p0 (And.intro p1 hO2)
     have q0:¬w.heap.size+1+1=go:=by omega
     have q1:¬w.heap.size+1+1=w4.heap.size:=by have:=HL4.out;omega
     clear rgZ rrZ okZ hO2 p0 p1 p2 p3 p4 p5 hle7 hgw hbm
     have bz:Ok Z Z:=Ok.refl _
     have bz':Ok Z Z.drew:=Below.drew (Ok.refl _)
     simp only [Exit.then]
     go_wp2_with fail
     go_region_held3 (fun w'=>w'.cell? ⟨go,0,none⟩=some (.int .i64 O2.1)/\w'.cell? ⟨go,1,none⟩=some (.int .i64 O2.2)/\w'.cell? ⟨w4.heap.size,0,none⟩=some (.int .i64 (dnI bl bh).1)/\w'.cell? ⟨w4.heap.size,1,none⟩=some (.int .i64 (dnI bl bh).2)) (go_keep)
      (first
      | (go_at_call 120;refine (rmeet_any _ _ _ _ Z _ (by assumption)).mono ?_;rintro e w9 ⟨rfl,hb9⟩;have a0':=Ok.cell hb9 y0 a0;have a1':=Ok.cell hb9 y0 a1;have v0':=Ok.cell hb9 y2 v0;have v1':=Ok.cell hb9 y2 v1)
      | (go_at_call 119;refine (rcorners_any _ _ _ _ Z _ (by assumption) (dn2_nz _ _)).mono ?_;rintro e w9 ⟨rfl,hb9⟩;have a0':=Ok.cell hb9 y0 a0;have a1':=Ok.cell hb9 y0 a1;have v0':=Ok.cell hb9 y2 v0;have v1':=Ok.cell hb9 y2 v1)
      | (go_at_call 121;refine (rjoin_any _ _ _ _ Z _ (by assumption)).mono ?_;rintro e w9 ⟨rfl,hb9⟩;have a0':=Ok.cell hb9 y0 a0;have a1':=Ok.cell hb9 y0 a1;have v0':=Ok.cell hb9 y2 v0;have v1':=Ok.cell hb9 y2 v1;have hr9:=Ok.row' hb9 HZ.out.1;obtain ⟨k0,k1,k2,k3⟩:=row_facts hr9)
      | fail)
     go_wp2_with fail
     (try simp only [Exit.inBlock,Exit.then])
     refine bodyPost_ret (results_iv rfl _ _ (w.heap.size+2) 24 #[_,_] (0,0) _ rfl (row_set2 hr9 _ _) Tryz.underlying24 rfl infoI) rfl ?_
     refine ⟨retib ?_,((HW.out.1.step (Ok.step HZ.out.2 hb9)).set (show w.heap.size<=w.heap.size+2 by omega) _).set (show w.heap.size<=w.heap.size+2 by omega) _⟩
     rw [E.out,HW.out.2.2,HE.out]
     rfl
   ·replace hB:hasI (dnI bl bh).1 (dnI bl bh).2 (-1)=false:=by simpa using hB
    have E:Hid (divI al ah bl bh=((J (divA al ah bl bh) (C (al,ah) (dnI bl bh))).1,(J (divA al ah bl bh) (C (al,ah) (dnI bl bh))).2,true)):=by
     unfold Hid divI
     rw [if_neg (by omega),if_neg (by rw [hB];simp)]
    go_wp2_with (first | (go_at_call 65;refine (rhas_ex _ _ _ _).mono ?_;rintro e w' ⟨rfl,rfl⟩) | fail)
    obtain ⟨X,hX⟩:∃ X,X=((w4.alloc (.cells #[.int .i64 (dnI bl bh).1,.int .i64 (dnI bl bh).2] 24)).alloc (.cells #[.int .i64 al,.int .i64 ah] 24)).alloc (.cells #[.int .i64 (dnI bl bh).1,.int .i64 (dnI bl bh).2] 24):=⟨_,rfl⟩
    have okX:Ok w4 X:=by rw [hX];exact (by repeat (first | exact Ok.refl _ | refine Ok.alloc ?_ _ | fail))
    have rd:X.heap[w4.heap.size]?=some (rowI (dnI bl bh).1 (dnI bl bh).2):=by rw [hX];exact jj
    rw [<-hX]
    clear hX
    have okWX:=Ok.step hbW4 okX
    have rg:=Ok.row' okX HA4.out
    have rr:=Ok.row' okWX HRR.out
    have ra:=Ok.row' okWX HRA0.out
    obtain ⟨a0,a1,_,_⟩:=row_facts ra
    obtain ⟨u0,u1,_,_⟩:=row_facts rg
    obtain ⟨v0,v1,_,_⟩:=row_facts rd
    have y0:=lt_row ra
    have y1:=lt_row rg
    have y2:=lt_row rd
    have HX:Hid _:=And.intro rr okWX
    clear e0 e1 q0 q1 ra rg rd rr okX
    have bx:Ok X X:=Ok.refl _
    have by':Ok X X.drew:=Below.drew (Ok.refl _)
    have hGW:=HT.out.2.2
    have m0:¬w.heap.size+1+1=w.heap.size:=by omega
    have m1:¬w.heap.size+1+1=g:=by omega
    have m2:¬w.heap.size+1+1=w4.heap.size:=by omega
    go_region_held3 (fun w'=>w'.cell? ⟨w.heap.size,0,none⟩=some (.int .i64 al)/\w'.cell? ⟨w.heap.size,1,none⟩=some (.int .i64 ah)/\w'.cell? ⟨g,0,none⟩=some (.int .i64 (divA al ah bl bh).1)/\w'.cell? ⟨g,1,none⟩=some (.int .i64 (divA al ah bl bh).2)/\w'.cell? ⟨w4.heap.size,0,none⟩=some (.int .i64 (dnI bl bh).1)/\w'.cell? ⟨w4.heap.size,1,none⟩=some (.int .i64 (dnI bl bh).2)) (go_keep)
     (first
     | (go_at_call 119;refine (rcorners_any _ _ _ _ X _ (by assumption) (dn_nz bl bh)).mono ?_;rintro e w5 ⟨rfl,hb5⟩;have a0':=Ok.cell hb5 y0 a0;have a1':=Ok.cell hb5 y0 a1;have u0':=Ok.cell hb5 y1 u0;have u1':=Ok.cell hb5 y1 u1;have v0':=Ok.cell hb5 y2 v0;have v1':=Ok.cell hb5 y2 v1)
     | (go_at_call 121;refine (rjoin_any _ _ _ _ X _ (by assumption)).mono ?_;rintro e w5 ⟨rfl,hb5⟩;have a0':=Ok.cell hb5 y0 a0;have a1':=Ok.cell hb5 y0 a1;have u0':=Ok.cell hb5 y1 u0;have u1':=Ok.cell hb5 y1 u1;have v0':=Ok.cell hb5 y2 v0;have v1':=Ok.cell hb5 y2 v1;have hr5:=Ok.row' hb5 HX.out.1;obtain ⟨k0,k1,k2,k3⟩:=row_facts hr5)
     | fail)
    go_wp2_with fail
    (try simp only [Exit.inBlock,Exit.then])
    refine bodyPost_ret (results_iv rfl _ _ (w.heap.size+2) 24 #[_,_] (0,0) _ rfl (row_set2 hr5 _ _) Tryz.underlying24 rfl infoI) rfl ?_
    exact ⟨retib E.out,((hokW.step (Ok.step HX.out.2 hb5)).set (show w.heap.size<=w.heap.size+2 by omega) _).set (show w.heap.size<=w.heap.size+2 by omega) _⟩
  ·replace hA:hasI al ah (-9223372036854775808)=false:=by simpa using hA
   have E:Hid (divI al ah bl bh=((J (divA al ah bl bh) (C (al,ah) (dnI bl bh))).1,(J (divA al ah bl bh) (C (al,ah) (dnI bl bh))).2,true)):=by
    unfold Hid divI
    rw [if_neg (by omega),if_neg (by rw [hA];simp)]
   go_wp2_with (first | (go_at_call 65;refine (rhas_ex _ _ _ _).mono ?_;rintro e w' ⟨rfl,rfl⟩) | fail)
   obtain ⟨X,hX⟩:∃ X,X=(w4.alloc (.cells #[.int .i64 (dnI bl bh).1,.int .i64 (dnI bl bh).2] 24)).alloc (.cells #[.int .i64 al,.int .i64 ah] 24):=⟨_,rfl⟩
   have okX:Ok w4 X:=by rw [hX];exact (by repeat (first | exact Ok.refl _ | refine Ok.alloc ?_ _ | fail))
   have rd:X.heap[w4.heap.size]?=some (rowI (dnI bl bh).1 (dnI bl bh).2):=by rw [hX];exact jj
   rw [<-hX]
   clear hX
   have okWX:=Ok.step hbW4 okX
   have rg:=Ok.row' okX HA4.out
   have rr:=Ok.row' okWX HRR.out
   have ra:=Ok.row' okWX HRA0.out
   obtain ⟨a0,a1,_,_⟩:=row_facts ra
   obtain ⟨u0,u1,_,_⟩:=row_facts rg
   obtain ⟨v0,v1,_,_⟩:=row_facts rd
   have y0:=lt_row ra
   have y1:=lt_row rg
   have y2:=lt_row rd
   have HX:Hid _:=And.intro rr okWX
   clear e0 e1 q0 q1 ra rg rd rr okX
   have bx:Ok X X:=Ok.refl _
   have by':Ok X X.drew:=Below.drew (Ok.refl _)
   have hGW:=HT.out.2.2
   have m0:¬w.heap.size+1+1=w.heap.size:=by omega
   have m1:¬w.heap.size+1+1=g:=by omega
   have m2:¬w.heap.size+1+1=w4.heap.size:=by omega
   go_region_held3 (fun w'=>w'.cell? ⟨w.heap.size,0,none⟩=some (.int .i64 al)/\w'.cell? ⟨w.heap.size,1,none⟩=some (.int .i64 ah)/\w'.cell? ⟨g,0,none⟩=some (.int .i64 (divA al ah bl bh).1)/\w'.cell? ⟨g,1,none⟩=some (.int .i64 (divA al ah bl bh).2)/\w'.cell? ⟨w4.heap.size,0,none⟩=some (.int .i64 (dnI bl bh).1)/\w'.cell? ⟨w4.heap.size,1,none⟩=some (.int .i64 (dnI bl bh).2)) (go_keep)
    (first
    | (go_at_call 119;refine (rcorners_any _ _ _ _ X _ (by assumption) (dn_nz bl bh)).mono ?_;rintro e w5 ⟨rfl,hb5⟩;have a0':=Ok.cell hb5 y0 a0;have a1':=Ok.cell hb5 y0 a1;have u0':=Ok.cell hb5 y1 u0;have u1':=Ok.cell hb5 y1 u1;have v0':=Ok.cell hb5 y2 v0;have v1':=Ok.cell hb5 y2 v1)
    | (go_at_call 121;refine (rjoin_any _ _ _ _ X _ (by assumption)).mono ?_;rintro e w5 ⟨rfl,hb5⟩;have a0':=Ok.cell hb5 y0 a0;have a1':=Ok.cell hb5 y0 a1;have u0':=Ok.cell hb5 y1 u0;have u1':=Ok.cell hb5 y1 u1;have v0':=Ok.cell hb5 y2 v0;have v1':=Ok.cell hb5 y2 v1;have hr5:=Ok.row' hb5 HX.out.1;obtain ⟨k0,k1,k2,k3⟩:=row_facts hr5)
    | fail)
   go_wp2_with fail
   (try simp only [Exit.inBlock,Exit.then])
   refine bodyPost_ret (results_iv rfl _ _ (w.heap.size+2) 24 #[_,_] (0,0) _ rfl (row_set2 hr5 _ _) Tryz.underlying24 rfl infoI) rfl ?_
   exact ⟨retib E.out,((hokW.step (Ok.step HX.out.2 hb5)).set (show w.heap.size<=w.heap.size+2 by omega) _).set (show w.heap.size<=w.heap.size+2 by omega) _⟩
theorem divI_none {al ah bl bh:Int} (h:ah<al\/bh<bl):divI al ah bl bh=(1,0,true):=by unfold divI;rw [if_pos h]
theorem rdiv_any (al ah bl bh:Int) (w0 w:World) (hok:Ok w0 w) :
  Calls Tryz.prog 41 #[.agg #[.int .i64 al,.int .i64 ah],.agg #[.int .i64 bl,.int .i64 bh]] w fun e w'=>e=.returned (.tuple #[.agg #[.int .i64 (divI al ah bl bh).1,.int .i64 (divI al ah bl bh).2.1],.bool (divI al ah bl bh).2.2])/\Ok w0 w':=by
 by_cases hc:ah<al
 ·have E:Hid _:=divI_none (bl:=bl) (bh:=bh) (Or.inl hc)
  have d:decide (ah<al)=true:=decide_eq_true hc
  go_enter Tryz.func41,Tryz.ntmps41
  go_wp2_with (first | (go_at_call 101;refine (rnone_any _).mono ?_;rintro e w' ⟨rfl,rfl⟩) | (go_at_call 100;refine (rempty_ex _ _ _).mono ?_;rintro e w' ⟨rfl,rfl⟩))
  (try simp only [Exit.inBlock, Exit.then]); refine bodyPost_ret (results_iv rfl _ _ (w.heap.size + 2) 24 #[_, _] (0, 0) _ rfl jj Tryz.underlying24 rfl infoI) rfl ?_
  exact ⟨retib E.out,(by repeat (first | exact hok | refine Ok.alloc ?_ _ | refine Ok.draws ?_ _ | fail))⟩
 ·by_cases hc2:bh<bl
  ·have E:Hid _:=divI_none (al:=al) (ah:=ah) (Or.inr hc2)
   have d:decide (ah<al)=false:=decide_eq_false hc
   have d2:decide (bh<bl)=true:=decide_eq_true hc2
   go_enter Tryz.func41,Tryz.ntmps41
   go_wp2_with (first | (go_at_call 101;refine (rnone_any _).mono ?_;rintro e w' ⟨rfl,rfl⟩) | (go_at_call 100;refine (rempty_ex _ _ _).mono ?_;rintro e w' ⟨rfl,rfl⟩))
   (try simp only [Exit.inBlock, Exit.then]); refine bodyPost_ret (results_iv rfl _ _ (w.heap.size + 2) 24 #[_, _] (0, 0) _ rfl jj Tryz.underlying24 rfl infoI) rfl ?_
   exact ⟨retib E.out,(by repeat (first | exact hok | refine Ok.alloc ?_ _ | refine Ok.draws ?_ _ | fail))⟩
  ·exact (rdiv_c al ah bl bh w (by omega) (by omega)).mono (fun e w' h=>⟨h.1,hok.step h.2⟩)
end
end Go.Proofs.YtpjpjhjjhoeijaaGreat
