import Derived.Test.YtnjmjnmhldhaoaaGreatKJw
import Derived.Test.YtnjmjnmhldhaoaaGreatKKn
import Derived.Test.YtnjmjnmhldhaoaaGreatKNu
set_option maxHeartbeats 8000000
set_option linter.all false
namespace Go.Proofs.YtnjmjnmhldhaoaaGreat
section
open Go.RowKit
theorem make_gap {lo hi:Int} {M R:Nat} (hl:In64 lo) (hh:In64 hi):makeN lo hi M R=if (upC M R lo).2=false\/(downC M R hi).2=false\/(downC M R hi).1<(upC M R lo).1 then botN
 else if (upC M R lo).1=(downC M R hi).1 then constN (upC M R lo).1
 else ((upC M R lo).1,(downC M R hi).1,(normC M R).1,(normC M R).2,false):=by
 unfold makeN
 by_cases h0:hi<lo
 ·rw [if_pos h0,if_pos]
  by_cases u:(upC M R lo).2=false
  ·exact Or.inl u
  ·by_cases d:(downC M R hi).2=false
   ·exact Or.inr (Or.inl d)
   ·have a:=(up_is (M:=M) (R:=R) hl).1 (by simpa using u)
    have b:=(down_is (M:=M) (R:=R) hh).1 (by simpa using d)
    exact Or.inr (Or.inr (by omega))
 ·rw [if_neg h0]
theorem nmake_any (l h:Int) (M R:Nat) (hl:In64 l) (hh:In64 h) (hM:U64 M) (hR:U64 R) (w0 w:World) (hok:Ok w0 w) :
  Calls Tryz.prog 19 #[.agg #[.int .i64 l,.int .i64 h],cv M R] w fun e w'=>e=.returned (nv (makeN l h M R))/\Ok w0 w':=by
 have hle:=hok.le
 rw [make_gap hl hh]
 obtain ⟨a,ea⟩:∃ z,z=(upC M R l).1:=⟨_,rfl⟩
 obtain ⟨za,eza⟩:∃ z,z=(upC M R l).2:=⟨_,rfl⟩
 obtain ⟨b,eb⟩:∃ z,z=(downC M R h).1:=⟨_,rfl⟩
 obtain ⟨zb,ezb⟩:∃ z,z=(downC M R h).2:=⟨_,rfl⟩
 obtain ⟨c,ec⟩:∃ z,z=normC M R:=⟨_,rfl⟩
 rw [<-ea,<-eza,<-eb,<-ezb,<-ec]
 have HU:Hid _:=And.intro hl (And.intro hh (And.intro hM hR))
 have EA:Hid _:=ea
 have EZA:Hid _:=eza
 have EB:Hid _:=eb
 have EZB:Hid _:=ezb
 have EC:Hid _:=ec
 clear ea eza eb ezb ec hl hh hM hR
 generalize hans:(if za=false\/zb=false\/b<a then botN else if a=b then constN a else (a,b,c.1,c.2,false))=ans
 have HS:Hid _:=hans
 clear hans
 unfold cv
 go_enter Tryz.func19,Tryz.ntmps19
 go_wp2_with fail
 obtain ⟨W,hW⟩:∃ W,W=(((w).alloc (.cells #[.int .i64 l,.int .i64 h] 24)).alloc (.cells #[.int .u64 (M:Int),.int .u64 (R:Int)] 27)).alloc (.cells #[.bool false,.int .i64 0,.int .i64 0,.int .u64 0,.int .u64 0] 29):=⟨_,rfl⟩
 have ra:Hid (W.heap[w.heap.size]?=some (.cells #[.int .i64 l,.int .i64 h] 24)):=by unfold Hid;rw [hW];exact jj
 have rb:Hid (W.heap[w.heap.size+1]?=some (.cells #[.int .u64 (M:Int),.int .u64 (R:Int)] 27)):=by unfold Hid;rw [hW];exact jj
 have rz:Hid (W.heap[w.heap.size+1+1]?=some (.cells #[.bool false,.int .i64 0,.int .i64 0,.int .u64 0,.int .u64 0] 29)):=by unfold Hid;rw [hW];exact jj
 have HW:Hid (Ok w0 W):=by unfold Hid;rw [hW];exact (by repeat (first | exact hok | refine Ok.alloc ?_ _ | refine Ok.draws ?_ _ | fail))
 rw [<-hW]
 clear hW
 clear hok
 refine (pup_any M R l HU.out.2.2.1 HU.out.2.2.2 HU.out.1 W _ (by repeat (first | exact Ok.refl _ | refine Ok.alloc ?_ _ | refine Ok.draws ?_ _ | fail))).mono ?_
 rintro e w1 ⟨rfl,hb⟩
 replace ra:Hid _:=Ok.row' hb ra.out
 replace rb:Hid _:=Ok.row' hb rb.out
 replace rz:Hid _:=Ok.row' hb rz.out
 have Hw1:Hid (Ok w0 w1):=HW.out.step hb
 clear hb
 rw [<-EA.out,<-EZA.out]
 obtain ⟨a0,a1,a2,a3⟩:=row_facts ra.out
 obtain ⟨b0,b1,b2,b3⟩:=row_facts rb.out
 go_wp2_with fail
 refine (pdown_any M R h HU.out.2.2.1 HU.out.2.2.2 HU.out.2.1 w1 _ (by repeat (first | exact Ok.refl _ | refine Ok.alloc ?_ _ | refine Ok.draws ?_ _ | fail))).mono ?_
 rintro e w2 ⟨rfl,hb⟩
 replace ra:Hid _:=Ok.row' hb ra.out
 replace rb:Hid _:=Ok.row' hb rb.out
 replace rz:Hid _:=Ok.row' hb rz.out
 have Hw2:Hid (Ok w0 w2):=Hw1.out.step hb
 clear hb
 rw [<-EB.out,<-EZB.out]
 clear a0 a1 a2 a3 b0 b1 b2 b3
 obtain ⟨a0,a1,a2,a3⟩:=row_facts ra.out
 obtain ⟨b0,b1,b2,b3⟩:=row_facts rb.out
 obtain ⟨k0,k1,k2,k3,k4,k5,k6,k7,k8,k9⟩:=row5_facts rz.out
 by_cases h1:za=false
 ·have HA:Hid (ans=botN):=by unfold Hid;rw [<-HS.out,if_pos (Or.inl h1)]
  clear HS
  subst h1
  go_wp2_with fail
  refine (nbot_any w2 _ (by repeat (first | exact Ok.refl _ | refine Ok.alloc ?_ _ | refine Ok.draws ?_ _ | fail))).mono ?_
  rintro e w3 ⟨rfl,hb⟩
  have hr:Hid _:=Ok.row' hb rz.out
  obtain ⟨k0,k1,k2,k3,k4,k5,k6,k7,k8,k9⟩:=row5_facts hr.out
  unfold nv botN
  go_wp2_with fail
  (try simp only [Exit.inBlock, Exit.then]); refine bodyPost_ret (results_cell_row rfl _ _ (w.heap.size+1+1) 29 #[_, _, _, _, _] (0, 0) _ rfl (row_set5 hr.out _ _ _ _ _) Tryz.underlying29 rfl infoN) rfl ?_
  exact ⟨(by rw [HA.out];rfl),Ok.set (Ok.set (Ok.set (Ok.set (Ok.set (Hw2.out.step hb) (show w0.heap.size<=w.heap.size+1+1 by omega) _) (show w0.heap.size<=w.heap.size+1+1 by omega) _) (show w0.heap.size<=w.heap.size+1+1 by omega) _) (show w0.heap.size<=w.heap.size+1+1 by omega) _) (show w0.heap.size<=w.heap.size+1+1 by omega) _⟩
 by_cases h2:zb=false
 ·have HA:Hid (ans=botN):=by unfold Hid;rw [<-HS.out,if_pos (Or.inr (Or.inl h2))]
  clear HS
  subst h2
  replace h1:za=true:=by simpa using h1
  subst h1
  go_wp2_with fail
  refine (nbot_any w2 _ (by repeat (first | exact Ok.refl _ | refine Ok.alloc ?_ _ | refine Ok.draws ?_ _ | fail))).mono ?_
  rintro e w3 ⟨rfl,hb⟩
  have hr:Hid _:=Ok.row' hb rz.out
  obtain ⟨k0,k1,k2,k3,k4,k5,k6,k7,k8,k9⟩:=row5_facts hr.out
  unfold nv botN
  go_wp2_with fail
  (try simp only [Exit.inBlock, Exit.then]); refine bodyPost_ret (results_cell_row rfl _ _ (w.heap.size+1+1) 29 #[_, _, _, _, _] (0, 0) _ rfl (row_set5 hr.out _ _ _ _ _) Tryz.underlying29 rfl infoN) rfl ?_
  exact ⟨(by rw [HA.out];rfl),Ok.set (Ok.set (Ok.set (Ok.set (Ok.set (Hw2.out.step hb) (show w0.heap.size<=w.heap.size+1+1 by omega) _) (show w0.heap.size<=w.heap.size+1+1 by omega) _) (show w0.heap.size<=w.heap.size+1+1 by omega) _) (show w0.heap.size<=w.heap.size+1+1 by omega) _) (show w0.heap.size<=w.heap.size+1+1 by omega) _⟩
 by_cases h3:b<a
 ·have HA:Hid (ans=botN):=by unfold Hid;rw [<-HS.out,if_pos (Or.inr (Or.inr h3))]
  clear HS
  replace h1:za=true:=by simpa using h1
  replace h2:zb=true:=by simpa using h2
  subst h1 h2
  go_wp2_with fail
  refine (nbot_any w2 _ (by repeat (first | exact Ok.refl _ | refine Ok.alloc ?_ _ | refine Ok.draws ?_ _ | fail))).mono ?_
  rintro e w3 ⟨rfl,hb⟩
  have hr:Hid _:=Ok.row' hb rz.out
  obtain ⟨k0,k1,k2,k3,k4,k5,k6,k7,k8,k9⟩:=row5_facts hr.out
  unfold nv botN
  go_wp2_with fail
  (try simp only [Exit.inBlock, Exit.then]); refine bodyPost_ret (results_cell_row rfl _ _ (w.heap.size+1+1) 29 #[_, _, _, _, _] (0, 0) _ rfl (row_set5 hr.out _ _ _ _ _) Tryz.underlying29 rfl infoN) rfl ?_
  exact ⟨(by rw [HA.out];rfl),Ok.set (Ok.set (Ok.set (Ok.set (Ok.set (Hw2.out.step hb) (show w0.heap.size<=w.heap.size+1+1 by omega) _) (show w0.heap.size<=w.heap.size+1+1 by omega) _) (show w0.heap.size<=w.heap.size+1+1 by omega) _) (show w0.heap.size<=w.heap.size+1+1 by omega) _) (show w0.heap.size<=w.heap.size+1+1 by omega) _⟩
 have HN:Hid (¬(za=false\/zb=false\/b<a)):=by rintro (h | h | h);exact h1 h;exact h2 h;exact h3 h
 replace h1:za=true:=by simpa using h1
 replace h2:zb=true:=by simpa using h2
 by_cases h4:a=b
 ·have HA:Hid (ans=constN a):=by unfold Hid;rw [<-HS.out,if_neg HN.out,if_pos h4]
  clear HS HN h3
  subst h1 h2 h4
  have d:decide (a<a)=false:=decide_eq_false (by omega)
  have d2:decide (a=a)=true:=decide_eq_true rfl
  go_wp2_with fail
  refine (nconst_any a w2 _ (by repeat (first | exact Ok.refl _ | refine Ok.alloc ?_ _ | refine Ok.draws ?_ _ | fail))).mono ?_
  rintro e w3 ⟨rfl,hb⟩
  have hr:Hid _:=Ok.row' hb rz.out
  obtain ⟨k0,k1,k2,k3,k4,k5,k6,k7,k8,k9⟩:=row5_facts hr.out
  unfold nv constN
  go_wp2_with fail
  (try simp only [Exit.inBlock, Exit.then]); refine bodyPost_ret (results_cell_row rfl _ _ (w.heap.size+1+1) 29 #[_, _, _, _, _] (0, 0) _ rfl (row_set5 hr.out _ _ _ _ _) Tryz.underlying29 rfl infoN) rfl ?_
  exact ⟨(by rw [HA.out];rfl),Ok.set (Ok.set (Ok.set (Ok.set (Ok.set (Hw2.out.step hb) (show w0.heap.size<=w.heap.size+1+1 by omega) _) (show w0.heap.size<=w.heap.size+1+1 by omega) _) (show w0.heap.size<=w.heap.size+1+1 by omega) _) (show w0.heap.size<=w.heap.size+1+1 by omega) _) (show w0.heap.size<=w.heap.size+1+1 by omega) _⟩
 have HA:Hid (ans=(a,b,c.1,c.2,false)):=by unfold Hid;rw [<-HS.out,if_neg HN.out,if_neg h4]
 clear HS HN
 subst h1 h2
 have h5:a<=b:=by omega
 go_wp2_with fail
 refine (pnorm_u M R HU.out.2.2.1 HU.out.2.2.2 w2 _ (by repeat (first | exact Ok.refl _ | refine Ok.alloc ?_ _ | refine Ok.draws ?_ _ | fail))).mono ?_
 rintro e w3 ⟨rfl,hb⟩
 have hr:Hid _:=Ok.row' hb rz.out
 obtain ⟨k0,k1,k2,k3,k4,k5,k6,k7,k8,k9⟩:=row5_facts hr.out
 rw [<-EC.out]
 unfold cv
 go_wp2_with fail
 (try simp only [Exit.inBlock, Exit.then]); refine bodyPost_ret (results_cell_row rfl _ _ (w.heap.size+1+1) 29 #[_, _, _, _, _] (0, 0) _ rfl (row_set5 hr.out _ _ _ _ _) Tryz.underlying29 rfl infoN) rfl ?_
 exact ⟨(by rw [HA.out];rfl),Ok.set (Ok.set (Ok.set (Ok.set (Ok.set (Hw2.out.step hb) (show w0.heap.size<=w.heap.size+1+1 by omega) _) (show w0.heap.size<=w.heap.size+1+1 by omega) _) (show w0.heap.size<=w.heap.size+1+1 by omega) _) (show w0.heap.size<=w.heap.size+1+1 by omega) _) (show w0.heap.size<=w.heap.size+1+1 by omega) _⟩
end
section
open Go.RowKit
theorem leqN_some {x y:Int×Int×Nat×Nat×Bool} (nx:NormN x) (hx:x.2.2.2.2=false) (hy:y.2.2.2.2=false):leqN x y=(leqI x.1 x.2.1 y.1 y.2.1&&leqC x.2.2.1 x.2.2.2.1 y.2.2.1 y.2.2.2.1):=by
 have s:=norm_some nx hx
 unfold leqN leqI
 rw [if_neg (by rw [hx,hy];simp),decide_eq_false (show ¬x.2.1<x.1 by omega),Bool.false_or,<-Bool.decide_and]
theorem rows_put2 {w0 W w1:World} {g k:Nat} {p0 p1 p2 p3 p4 q0 q1 q2 q3 q4:Value} {t u:TypeId} (hgk:g≠k) (ra:W.heap[g]?=some (.cells #[p0,p1,p2,p3,p4] t (0,0))) (rb:W.heap[k]?=some (.cells #[q0,q1,q2,q3,q4] u (0,0))) (hb:Ok W w1) (h0:Ok w0 W) (hg:w0.heap.size<=g) (hk:w0.heap.size<=k) (x0 x1 x2 x3 x4 y0 y1 y2 y3 y4:Value) :
  Hid (Ok w0 ((((((((((w1.setCell ⟨g,0,none⟩ x0).setCell ⟨g,1,none⟩ x1).setCell ⟨g,2,none⟩ x2).setCell ⟨g,3,none⟩ x3).setCell ⟨g,4,none⟩ x4).setCell ⟨k,0,none⟩ y0).setCell ⟨k,1,none⟩ y1).setCell ⟨k,2,none⟩ y2).setCell ⟨k,3,none⟩ y3).setCell ⟨k,4,none⟩ y4) /\
  ((((((((((w1.setCell ⟨g,0,none⟩ x0).setCell ⟨g,1,none⟩ x1).setCell ⟨g,2,none⟩ x2).setCell ⟨g,3,none⟩ x3).setCell ⟨g,4,none⟩ x4).setCell ⟨k,0,none⟩ y0).setCell ⟨k,1,none⟩ y1).setCell ⟨k,2,none⟩ y2).setCell ⟨k,3,none⟩ y3).setCell ⟨k,4,none⟩ y4).heap[g]?=some (.cells #[x0,x1,x2,x3,x4] t (0,0)) /\
  ((((((((((w1.setCell ⟨g,0,none⟩ x0).setCell ⟨g,1,none⟩ x1).setCell ⟨g,2,none⟩ x2).setCell ⟨g,3,none⟩ x3).setCell ⟨g,4,none⟩ x4).setCell ⟨k,0,none⟩ y0).setCell ⟨k,1,none⟩ y1).setCell ⟨k,2,none⟩ y2).setCell ⟨k,3,none⟩ y3).setCell ⟨k,4,none⟩ y4).heap[k]?=some (.cells #[y0,y1,y2,y3,y4] u (0,0))/\(∀ (h:Nat) (o:Obj),h≠g->h≠k->W.heap[h]?=some o->((((((((((w1.setCell ⟨g,0,none⟩ x0).setCell ⟨g,1,none⟩ x1).setCell ⟨g,2,none⟩ x2).setCell ⟨g,3,none⟩ x3).setCell ⟨g,4,none⟩ x4).setCell ⟨k,0,none⟩ y0).setCell ⟨k,1,none⟩ y1).setCell ⟨k,2,none⟩ y2).setCell ⟨k,3,none⟩ y3).setCell ⟨k,4,none⟩ y4).heap[h]?=some o)):=by
 have s1:=row_set5 (Ok.row' hb ra) x0 x1 x2 x3 x4
 have s2:(((((w1.setCell ⟨g,0,none⟩ x0).setCell ⟨g,1,none⟩ x1).setCell ⟨g,2,none⟩ x2).setCell ⟨g,3,none⟩ x3).setCell ⟨g,4,none⟩ x4).heap[k]?=some (.cells #[q0,q1,q2,q3,q4] u (0,0)):=by
  rw [heap_setCell_other _ _ _ _ (Ne.symm hgk),heap_setCell_other _ _ _ _ (Ne.symm hgk),heap_setCell_other _ _ _ _ (Ne.symm hgk),heap_setCell_other _ _ _ _ (Ne.symm hgk),heap_setCell_other _ _ _ _ (Ne.symm hgk)]
  exact Ok.row' hb rb
 refine ⟨?_,?_,row_set5 s2 y0 y1 y2 y3 y4,?_⟩
 ·exact Ok.set (Ok.set (Ok.set (Ok.set (Ok.set (Ok.set (Ok.set (Ok.set (Ok.set (Ok.set (h0.step hb) hg _) hg _) hg _) hg _) hg _) hk _) hk _) hk _) hk _) hk _
 ·rw [heap_setCell_other _ _ _ _ hgk,heap_setCell_other _ _ _ _ hgk,heap_setCell_other _ _ _ _ hgk,heap_setCell_other _ _ _ _ hgk,heap_setCell_other _ _ _ _ hgk]
  exact s1
 ·intro h o h1 h2 ho
  rw [heap_setCell_other _ _ _ _ h2,heap_setCell_other _ _ _ _ h2,heap_setCell_other _ _ _ _ h2,heap_setCell_other _ _ _ _ h2,heap_setCell_other _ _ _ _ h2,heap_setCell_other _ _ _ _ h1,heap_setCell_other _ _ _ _ h1,heap_setCell_other _ _ _ _ h1,heap_setCell_other _ _ _ _ h1,heap_setCell_other _ _ _ _ h1]
  exact Ok.row' hb ho
def NPN (F:Act) (R:World->Prop):Exit->Act->World->Prop
 | .normal,a,w=>a=F/\R w
 | _,_,_=>False
theorem wp_cutN {P:Program} {c:Code} {Q:Exit->Act->World->Prop} {a:Act} {w:World} {F:Act} (R:World->Prop) (h1:c.wp P (NPN F R) a w) (h2:∀ w',R w'->Q .normal F w'):c.wp P Q a w :=
 Code.wp_mono (fun e a w h=>by cases e<;>first | exact (h.1 ▸ h2 _ h.2) | exact (h:False).elim) h1
set_option maxRecDepth 100000 in
theorem nnorm_any (a:Int×Int×Nat×Nat×Bool) (ha:RawN a) (w0 w:World) (hok:Ok w0 w) :
  Calls Tryz.prog 7 #[nv a] w fun e w'=>e=.returned (nv (normN a))/\Ok w0 w':=by
 have hle:=hok.le
 obtain ⟨l,h,M,R,B⟩:=a
 have HU:Hid _:=ha
 clear ha
 generalize hans:normN (l,h,M,R,B)=ans
 have HS:Hid _:=hans
 clear hans
 unfold nv
 simp only
 go_enter Tryz.func7,Tryz.ntmps7
 cases B
 ·have HA:Hid (ans=makeN l h M R):=by unfold Hid;rw [<-HS.out];rfl
  clear HS
  go_wp2_with fail
  obtain ⟨W,hW⟩:∃ W,W=((w).alloc (.cells #[.bool false,.int .i64 l,.int .i64 h,.int .u64 (M:Int),.int .u64 (R:Int)] 29)).alloc (.cells #[.bool false,.int .i64 0,.int .i64 0,.int .u64 0,.int .u64 0] 29):=⟨_,rfl⟩
  have rz:Hid (W.heap[w.heap.size+1]?=some (.cells #[.bool false,.int .i64 0,.int .i64 0,.int .u64 0,.int .u64 0] 29)):=by unfold Hid;rw [hW];exact jj
  have HW:Hid (Ok w0 W):=by unfold Hid;rw [hW];exact (by repeat (first | exact hok | refine Ok.alloc ?_ _ | refine Ok.draws ?_ _ | fail))
  rw [<-hW]
  clear hW
  refine (nmake_any l h M R HU.out.1 HU.out.2.1 HU.out.2.2.1 HU.out.2.2.2 W _ (by repeat (first | exact Ok.refl _ | refine Ok.alloc ?_ _ | refine Ok.draws ?_ _ | fail))).mono ?_
  rintro e w1 ⟨rfl,hb⟩
  have hr:Hid _:=Ok.row' hb rz.out
  obtain ⟨k0,k1,k2,k3,k4,k5,k6,k7,k8,k9⟩:=row5_facts hr.out
  rw [<-HA.out]
  unfold nv
  go_wp2_with fail
  (try simp only [Exit.inBlock, Exit.then]); refine bodyPost_ret (results_cell_row rfl _ _ (w.heap.size+1) 29 #[_, _, _, _, _] (0, 0) _ rfl (row_set5 hr.out _ _ _ _ _) Tryz.underlying29 rfl infoN) rfl ?_
  exact ⟨rfl,Ok.set (Ok.set (Ok.set (Ok.set (Ok.set (HW.out.step hb) (show w0.heap.size<=w.heap.size+1 by omega) _) (show w0.heap.size<=w.heap.size+1 by omega) _) (show w0.heap.size<=w.heap.size+1 by omega) _) (show w0.heap.size<=w.heap.size+1 by omega) _) (show w0.heap.size<=w.heap.size+1 by omega) _⟩
 ·have HA:Hid (ans=botN):=by unfold Hid;rw [<-HS.out];rfl
  clear HS
  go_wp2_with fail
  obtain ⟨W,hW⟩:∃ W,W=((w).alloc (.cells #[.bool true,.int .i64 l,.int .i64 h,.int .u64 (M:Int),.int .u64 (R:Int)] 29)).alloc (.cells #[.bool false,.int .i64 0,.int .i64 0,.int .u64 0,.int .u64 0] 29):=⟨_,rfl⟩
  have rz:Hid (W.heap[w.heap.size+1]?=some (.cells #[.bool false,.int .i64 0,.int .i64 0,.int .u64 0,.int .u64 0] 29)):=by unfold Hid;rw [hW];exact jj
  have HW:Hid (Ok w0 W):=by unfold Hid;rw [hW];exact (by repeat (first | exact hok | refine Ok.alloc ?_ _ | refine Ok.draws ?_ _ | fail))
  rw [<-hW]
  clear hW
  refine (nbot_any W _ (by repeat (first | exact Ok.refl _ | refine Ok.alloc ?_ _ | refine Ok.draws ?_ _ | fail))).mono ?_
  rintro e w1 ⟨rfl,hb⟩
  have hr:Hid _:=Ok.row' hb rz.out
  obtain ⟨k0,k1,k2,k3,k4,k5,k6,k7,k8,k9⟩:=row5_facts hr.out
  unfold nv botN
  go_wp2_with fail
  (try simp only [Exit.inBlock, Exit.then]); refine bodyPost_ret (results_cell_row rfl _ _ (w.heap.size+1) 29 #[_, _, _, _, _] (0, 0) _ rfl (row_set5 hr.out _ _ _ _ _) Tryz.underlying29 rfl infoN) rfl ?_
  exact ⟨(by rw [HA.out];rfl),Ok.set (Ok.set (Ok.set (Ok.set (Ok.set (HW.out.step hb) (show w0.heap.size<=w.heap.size+1 by omega) _) (show w0.heap.size<=w.heap.size+1 by omega) _) (show w0.heap.size<=w.heap.size+1 by omega) _) (show w0.heap.size<=w.heap.size+1 by omega) _) (show w0.heap.size<=w.heap.size+1 by omega) _⟩
set_option maxRecDepth 100000 in
theorem nrange_any (l h:Int) (hl:In64 l) (hh:In64 h) (w0 w:World) (hok:Ok w0 w) :
  Calls Tryz.prog 86 #[.int .i64 l,.int .i64 h] w fun e w'=>e=.returned (nv (makeN l h 1 0))/\Ok w0 w':=by
 have hle:=hok.le
 have HU:Hid _:=And.intro hl hh
 clear hl hh
 go_enter Tryz.func86,Tryz.ntmps86
 go_wp2_with fail
 obtain ⟨W,hW⟩:∃ W,W=(w).alloc (.cells #[.bool false,.int .i64 0,.int .i64 0,.int .u64 0,.int .u64 0] 29):=⟨_,rfl⟩
 have rz:Hid (W.heap[w.heap.size]?=some (.cells #[.bool false,.int .i64 0,.int .i64 0,.int .u64 0,.int .u64 0] 29)):=by unfold Hid;rw [hW];exact jj
 have HW:Hid (Ok w0 W):=by unfold Hid;rw [hW];exact (by repeat (first | exact hok | refine Ok.alloc ?_ _ | refine Ok.draws ?_ _ | fail))
 rw [<-hW]
 clear hW
 refine (every_any W _ (by repeat (first | exact Ok.refl _ | refine Ok.alloc ?_ _ | refine Ok.draws ?_ _ | fail))).mono ?_
 rintro e w1 ⟨rfl,hb⟩
 replace rz:Hid _:=Ok.row' hb rz.out
 have Hw1:Hid (Ok w0 w1):=HW.out.step hb
 clear hb
 unfold cv
 go_wp2_with fail
 refine (nmake_any l h 1 0 HU.out.1 HU.out.2 u_one u_zero w1 _ (by repeat (first | exact Ok.refl _ | refine Ok.alloc ?_ _ | refine Ok.draws ?_ _ | fail))).mono ?_
 rintro e w2 ⟨rfl,hb⟩
 have hr:Hid _:=Ok.row' hb rz.out
 obtain ⟨k0,k1,k2,k3,k4,k5,k6,k7,k8,k9⟩:=row5_facts hr.out
 unfold nv
 go_wp2_with fail
 (try simp only [Exit.inBlock, Exit.then]); refine bodyPost_ret (results_cell_row rfl _ _ (w.heap.size) 29 #[_, _, _, _, _] (0, 0) _ rfl (row_set5 hr.out _ _ _ _ _) Tryz.underlying29 rfl infoN) rfl ?_
 exact ⟨rfl,Ok.set (Ok.set (Ok.set (Ok.set (Ok.set (Hw1.out.step hb) (show w0.heap.size<=w.heap.size by omega) _) (show w0.heap.size<=w.heap.size by omega) _) (show w0.heap.size<=w.heap.size by omega) _) (show w0.heap.size<=w.heap.size by omega) _) (show w0.heap.size<=w.heap.size by omega) _⟩
set_option maxRecDepth 100000 in
theorem ntop_any (w0 w:World) (hok:Ok w0 w) :
  Calls Tryz.prog 43 #[] w fun e w'=>e=.returned (nv topN)/\Ok w0 w':=by
 have hle:=hok.le
 have HT:Hid (topN=makeN (-9223372036854775808) 9223372036854775807 1 0):=rfl
 obtain ⟨t,ht⟩:∃ t,t=topN:=⟨_,rfl⟩
 rw [<-ht] at HT ⊢
 clear ht
 go_enter Tryz.func43,Tryz.ntmps43
 go_wp2_with fail
 obtain ⟨W,hW⟩:∃ W,W=(w).alloc (.cells #[.bool false,.int .i64 0,.int .i64 0,.int .u64 0,.int .u64 0] 29):=⟨_,rfl⟩
 have rz:Hid (W.heap[w.heap.size]?=some (.cells #[.bool false,.int .i64 0,.int .i64 0,.int .u64 0,.int .u64 0] 29)):=by unfold Hid;rw [hW];exact jj
 have HW:Hid (Ok w0 W):=by unfold Hid;rw [hW];exact (by repeat (first | exact hok | refine Ok.alloc ?_ _ | refine Ok.draws ?_ _ | fail))
 rw [<-hW]
 clear hW
 refine (nrange_any (-9223372036854775808) 9223372036854775807 min_in max_in W _ (by repeat (first | exact Ok.refl _ | refine Ok.alloc ?_ _ | refine Ok.draws ?_ _ | fail))).mono ?_
 rintro e w1 ⟨rfl,hb⟩
 have hr:Hid _:=Ok.row' hb rz.out
 obtain ⟨k0,k1,k2,k3,k4,k5,k6,k7,k8,k9⟩:=row5_facts hr.out
 rw [<-HT.out]
 unfold nv
 go_wp2_with fail
 (try simp only [Exit.inBlock, Exit.then]); refine bodyPost_ret (results_cell_row rfl _ _ (w.heap.size) 29 #[_, _, _, _, _] (0, 0) _ rfl (row_set5 hr.out _ _ _ _ _) Tryz.underlying29 rfl infoN) rfl ?_
 exact ⟨rfl,Ok.set (Ok.set (Ok.set (Ok.set (Ok.set (HW.out.step hb) (show w0.heap.size<=w.heap.size by omega) _) (show w0.heap.size<=w.heap.size by omega) _) (show w0.heap.size<=w.heap.size by omega) _) (show w0.heap.size<=w.heap.size by omega) _) (show w0.heap.size<=w.heap.size by omega) _⟩
set_option maxRecDepth 100000 in
theorem nhas_any (a:Int×Int×Nat×Nat×Bool) (v:Int) (ha:RawN a) (w0 w:World) (hok:Ok w0 w) :
  Calls Tryz.prog 87 #[nv a,.int .i64 v] w fun e w'=>e=.returned (.bool (insN a v))/\Ok w0 w':=by
 have hle:=hok.le
 obtain ⟨l,h,M,R,B⟩:=a
 have HU:Hid _:=ha
 clear ha
 generalize hans:insN (l,h,M,R,B) v=ans
 have HS:Hid _:=hans
 clear hans
 unfold nv
 simp only
 go_enter Tryz.func87,Tryz.ntmps87
 cases B
 ·obtain ⟨x,hx⟩:∃ x,x=hasI l h v:=⟨_,rfl⟩
  have HA:Hid (ans=(x&&hasC M R v)):=by unfold Hid;rw [<-HS.out,hx];rfl
  clear HS
  have HX:Hid _:=hx
  clear hx
  go_wp2_with fail
  obtain ⟨W,hW⟩:∃ W,W=(w).alloc (.cells #[.bool false,.int .i64 l,.int .i64 h,.int .u64 (M:Int),.int .u64 (R:Int)] 29):=⟨_,rfl⟩
  have ra:Hid (W.heap[w.heap.size]?=some (.cells #[.bool false,.int .i64 l,.int .i64 h,.int .u64 (M:Int),.int .u64 (R:Int)] 29)):=by unfold Hid;rw [hW];exact jj
  have HW:Hid (Ok w0 W):=by unfold Hid;rw [hW];exact (by repeat (first | exact hok | refine Ok.alloc ?_ _ | refine Ok.draws ?_ _ | fail))
  rw [<-hW]
  clear hW
  refine (Jphas_any l h v W _ (by repeat (first | exact Ok.refl _ | refine Ok.alloc ?_ _ | refine Ok.draws ?_ _ | fail))).mono ?_
  rintro e w1 ⟨rfl,hb⟩
  replace ra:Hid _:=Ok.row' hb ra.out
  have Hw1:Hid (Ok w0 w1):=HW.out.step hb
  clear hb
  rw [<-HX.out]
  obtain ⟨a0,a1,a2,a3,a4,a5,a6,a7,a8,a9⟩:=row5_facts ra.out
  cases x
  ·go_wp2_with fail
   go_ret
   exact ⟨by rw [HA.out];rfl,Hw1.out⟩
  ·go_wp2_with fail
   refine (phas_any M R v HU.out.2.2.1 HU.out.2.2.2 w1 _ (by repeat (first | exact Ok.refl _ | refine Ok.alloc ?_ _ | refine Ok.draws ?_ _ | fail))).mono ?_
   rintro e w2 ⟨rfl,hb⟩
   have Hw2:Hid (Ok w0 w2):=Hw1.out.step hb
   clear hb
   go_wp2_with fail
   go_ret
   exact ⟨by rw [HA.out];rfl,Hw2.out⟩
 ·have HA:Hid (ans=false):=by unfold Hid;rw [<-HS.out];rfl
  clear HS
  go_wp2_with fail
  go_ret
  exact ⟨by rw [HA.out];rfl,hok.alloc _⟩
end
end Go.Proofs.YtnjmjnmhldhaoaaGreat
