import Derived.Test.YtnjmjnmhldhaoaaGreatKNl
set_option maxHeartbeats 8000000
set_option linter.all false
namespace Go.Proofs.YtnjmjnmhldhaoaaGreat
open Go.RowKit
theorem rempty_any (l h:Int) (w0 w:World) (hok:Ok w0 w) :
  Calls Tryz.prog 61 #[.agg #[.int .i64 l,.int .i64 h]] w fun e w'=>e=.returned (.bool (decide (h<l)))/\Ok w0 w' :=
 (rempty_ex l h w).mono (fun e w' k=>⟨k.1,by rw [k.2];exact hok.alloc _⟩)
theorem rconst_any (v:Int) (w0 w:World) (hok:Ok w0 w) :
  Calls Tryz.prog 15 #[.int .i64 v] w fun e w'=>e=.returned (nv (constN v))/\Ok w0 w':=by
 have hle:=hok.le
 go_enter Tryz.func15,Tryz.ntmps15
 go_wp2_with fail
 refine (cconst_any v _ _ (Ok.refl _)).mono ?_
 rintro e w' ⟨rfl,hb⟩
 have hr : Hid _ := Ok.row' (g := w.heap.size) (o := .cells #[.bool false, .int .i64 0, .int .i64 0, .int .u64 0, .int .u64 0] 29) hb jj; obtain ⟨k0, k1, k2, k3, k4, k5, k6, k7, k8, k9⟩ := row5_facts hr.out
 unfold cv
 go_wp2_with fail
 (try simp only [Exit.inBlock, Exit.then]); refine bodyPost_ret (results_cell_row rfl _ _ (w.heap.size) 29 #[_, _, _, _, _] (0, 0) _ rfl (row_set5 hr.out _ _ _ _ _) Tryz.underlying29 rfl infoN) rfl ?_
 exact ⟨rfl,(((((Ok.step (by repeat (first | exact hok | refine Ok.alloc ?_ _ | refine Ok.draws ?_ _ | fail)) hb).set (show w0.heap.size ≤ w.heap.size by omega) _).set (show w0.heap.size ≤ w.heap.size by omega) _).set (show w0.heap.size ≤ w.heap.size by omega) _).set (show w0.heap.size ≤ w.heap.size by omega) _).set (show w0.heap.size ≤ w.heap.size by omega) _⟩
set_option maxRecDepth 100000 in
theorem rmake_any (l h:Int) (M R:Nat) (hl:In64 l) (hh:In64 h) (hM:U64 M) (hR:U64 R) (w0 w:World) (hok:Ok w0 w) :
  Calls Tryz.prog 53 #[.agg #[.int .i64 l,.int .i64 h],cv M R] w fun e w'=>e=.returned (nv (makeN l h M R))/\Ok w0 w':=by
 have hle:=hok.le
 obtain ⟨a,ea⟩:∃ z,z=(upC M R l).1:=⟨_,rfl⟩
 obtain ⟨za,eza⟩:∃ z,z=(upC M R l).2:=⟨_,rfl⟩
 obtain ⟨b,eb⟩:∃ z,z=(downC M R h).1:=⟨_,rfl⟩
 obtain ⟨zb,ezb⟩:∃ z,z=(downC M R h).2:=⟨_,rfl⟩
 obtain ⟨c,ec⟩:∃ z,z=normC M R:=⟨_,rfl⟩
 have HU:Hid _:=And.intro hl (And.intro hh (And.intro hM hR))
 obtain ⟨ans,hans⟩:∃ z,z=makeN l h M R:=⟨_,rfl⟩
 have HS:Hid (ans=if h<l then botN else if za=false\/zb=false\/b<a then botN else if a=b then constN a else (a,b,c.1,c.2,false)):=by unfold Hid;rw [hans,ea,eza,eb,ezb,ec];rfl
 rw [<-hans]
 have EA:Hid _:=ea
 have EZA:Hid _:=eza
 have EB:Hid _:=eb
 have EZB:Hid _:=ezb
 have EC:Hid _:=ec
 clear ea eza eb ezb ec hl hh hM hR hans
 unfold cv
 go_enter Tryz.func53,Tryz.ntmps53
 go_wp2_with fail
 obtain ⟨W,hW⟩:∃ W,W=(((w).alloc (.cells #[.int .i64 l,.int .i64 h] 24)).alloc (.cells #[.int .u64 (M:Int),.int .u64 (R:Int)] 27)).alloc (.cells #[.bool false,.int .i64 0,.int .i64 0,.int .u64 0,.int .u64 0] 29):=⟨_,rfl⟩
 have ra:Hid (W.heap[w.heap.size]?=some (.cells #[.int .i64 l,.int .i64 h] 24)):=by unfold Hid;rw [hW];exact jj
 have rb:Hid (W.heap[w.heap.size+1]?=some (.cells #[.int .u64 (M:Int),.int .u64 (R:Int)] 27)):=by unfold Hid;rw [hW];exact jj
 have rz:Hid (W.heap[w.heap.size+1+1]?=some (.cells #[.bool false,.int .i64 0,.int .i64 0,.int .u64 0,.int .u64 0] 29)):=by unfold Hid;rw [hW];exact jj
 have HW:Hid (Ok w0 W):=by unfold Hid;rw [hW];exact (by repeat (first | exact hok | refine Ok.alloc ?_ _ | refine Ok.draws ?_ _ | fail))
 rw [<-hW]
 clear hW
 clear hok
 refine (rempty_any l h W _ (by repeat (first | exact Ok.refl _ | refine Ok.alloc ?_ _ | refine Ok.draws ?_ _ | fail))).mono ?_
 rintro e w0a ⟨rfl,hb⟩
 replace ra:Hid _:=Ok.row' hb ra.out
 replace rb:Hid _:=Ok.row' hb rb.out
 replace rz:Hid _:=Ok.row' hb rz.out
 have Hw0a:Hid (Ok w0 w0a):=HW.out.step hb
 clear hb
 obtain ⟨a0,a1,a2,a3⟩:=row_facts ra.out
 obtain ⟨b0,b1,b2,b3⟩:=row_facts rb.out
 obtain ⟨k0,k1,k2,k3,k4,k5,k6,k7,k8,k9⟩:=row5_facts rz.out
 by_cases hlt:h<l
 ·have HA:Hid (ans=botN):=by unfold Hid;rw [HS.out,if_pos hlt]
  have d0:decide (h<l)=true:=decide_eq_true hlt
  clear HS
  rw [d0]
  go_wp2_with fail
  refine (rbot_any w0a _ (by repeat (first | exact Ok.refl _ | refine Ok.alloc ?_ _ | refine Ok.draws ?_ _ | fail))).mono ?_
  rintro e w9 ⟨rfl,hb⟩
  have hr:Hid _:=Ok.row' hb rz.out
  obtain ⟨k0,k1,k2,k3,k4,k5,k6,k7,k8,k9⟩:=row5_facts hr.out
  unfold nv botN
  go_wp2_with fail
  (try simp only [Exit.inBlock, Exit.then]); refine bodyPost_ret (results_cell_row rfl _ _ (w.heap.size+1+1) 29 #[_, _, _, _, _] (0, 0) _ rfl (row_set5 hr.out _ _ _ _ _) Tryz.underlying29 rfl infoN) rfl ?_
  exact ⟨(by rw [HA.out];rfl),Ok.set (Ok.set (Ok.set (Ok.set (Ok.set (Hw0a.out.step hb) (show w0.heap.size<=w.heap.size+1+1 by omega) _) (show w0.heap.size<=w.heap.size+1+1 by omega) _) (show w0.heap.size<=w.heap.size+1+1 by omega) _) (show w0.heap.size<=w.heap.size+1+1 by omega) _) (show w0.heap.size<=w.heap.size+1+1 by omega) _⟩
 have d0:decide (h<l)=false:=decide_eq_false hlt
 replace HS:Hid (ans=if za=false\/zb=false\/b<a then botN else if a=b then constN a else (a,b,c.1,c.2,false)):=by unfold Hid;rw [HS.out,if_neg hlt]
 rw [d0]
 clear hlt d0
 go_wp2_with fail
 clear k0 k1 k2 k3 k4 k5 k6 k7 k8 k9
 clear a0 a1 a2 a3 b0 b1 b2 b3
 refine (cup_any M R l HU.out.2.2.1 HU.out.2.2.2 HU.out.1 w0a _ (by repeat (first | exact Ok.refl _ | refine Ok.alloc ?_ _ | refine Ok.draws ?_ _ | fail))).mono ?_
 rintro e w1 ⟨rfl,hb⟩
 replace ra:Hid _:=Ok.row' hb ra.out
 replace rb:Hid _:=Ok.row' hb rb.out
 replace rz:Hid _:=Ok.row' hb rz.out
 have Hw1:Hid (Ok w0 w1):=Hw0a.out.step hb
 clear hb
 rw [<-EA.out,<-EZA.out]
 obtain ⟨a0,a1,a2,a3⟩:=row_facts ra.out
 obtain ⟨b0,b1,b2,b3⟩:=row_facts rb.out
 go_wp2_with fail
 refine (cdown_any M R h HU.out.2.2.1 HU.out.2.2.2 HU.out.2.1 w1 _ (by repeat (first | exact Ok.refl _ | refine Ok.alloc ?_ _ | refine Ok.draws ?_ _ | fail))).mono ?_
 rintro e w2 ⟨rfl,hb⟩
 replace ra:Hid _:=Ok.row' hb ra.out
 replace rb:Hid _:=Ok.row' hb rb.out
 replace rz:Hid _:=Ok.row' hb rz.out
 have Hw2:Hid (Ok w0 w2):=Hw1.out.step hb
 clear hb
 rw [<-EB.out,<-EZB.out]
 clear a0 a1 a2 a3 b0 b1 b2 b3
 obtain ⟨a0,a1,a2,a3⟩:=row_facts ra.out
 obtain ⟨b0,b1,b2,b3⟩:=row_facts rb.out
 obtain ⟨k0,k1,k2,k3,k4,k5,k6,k7,k8,k9⟩:=row5_facts rz.out
 by_cases h1:za=false
 ·have HA:Hid (ans=botN):=by unfold Hid;rw [HS.out,if_pos (Or.inl h1)]
  clear HS
  subst h1
  go_wp2_with fail
  refine (rbot_any w2 _ (by repeat (first | exact Ok.refl _ | refine Ok.alloc ?_ _ | refine Ok.draws ?_ _ | fail))).mono ?_
  rintro e w9 ⟨rfl,hb⟩
  have hr:Hid _:=Ok.row' hb rz.out
  obtain ⟨k0,k1,k2,k3,k4,k5,k6,k7,k8,k9⟩:=row5_facts hr.out
  unfold nv botN
  go_wp2_with fail
  (try simp only [Exit.inBlock, Exit.then]); refine bodyPost_ret (results_cell_row rfl _ _ (w.heap.size+1+1) 29 #[_, _, _, _, _] (0, 0) _ rfl (row_set5 hr.out _ _ _ _ _) Tryz.underlying29 rfl infoN) rfl ?_
  exact ⟨(by rw [HA.out];rfl),Ok.set (Ok.set (Ok.set (Ok.set (Ok.set (Hw2.out.step hb) (show w0.heap.size<=w.heap.size+1+1 by omega) _) (show w0.heap.size<=w.heap.size+1+1 by omega) _) (show w0.heap.size<=w.heap.size+1+1 by omega) _) (show w0.heap.size<=w.heap.size+1+1 by omega) _) (show w0.heap.size<=w.heap.size+1+1 by omega) _⟩
 by_cases h2:zb=false
 ·have HA:Hid (ans=botN):=by unfold Hid;rw [HS.out,if_pos (Or.inr (Or.inl h2))]
  clear HS
  subst h2
  replace h1:za=true:=by simpa using h1
  subst h1
  go_wp2_with fail
  refine (rbot_any w2 _ (by repeat (first | exact Ok.refl _ | refine Ok.alloc ?_ _ | refine Ok.draws ?_ _ | fail))).mono ?_
  rintro e w9 ⟨rfl,hb⟩
  have hr:Hid _:=Ok.row' hb rz.out
  obtain ⟨k0,k1,k2,k3,k4,k5,k6,k7,k8,k9⟩:=row5_facts hr.out
  unfold nv botN
  go_wp2_with fail
  (try simp only [Exit.inBlock, Exit.then]); refine bodyPost_ret (results_cell_row rfl _ _ (w.heap.size+1+1) 29 #[_, _, _, _, _] (0, 0) _ rfl (row_set5 hr.out _ _ _ _ _) Tryz.underlying29 rfl infoN) rfl ?_
  exact ⟨(by rw [HA.out];rfl),Ok.set (Ok.set (Ok.set (Ok.set (Ok.set (Hw2.out.step hb) (show w0.heap.size<=w.heap.size+1+1 by omega) _) (show w0.heap.size<=w.heap.size+1+1 by omega) _) (show w0.heap.size<=w.heap.size+1+1 by omega) _) (show w0.heap.size<=w.heap.size+1+1 by omega) _) (show w0.heap.size<=w.heap.size+1+1 by omega) _⟩
 by_cases h3:b<a
 ·have HA:Hid (ans=botN):=by unfold Hid;rw [HS.out,if_pos (Or.inr (Or.inr h3))]
  clear HS
  replace h1:za=true:=by simpa using h1
  replace h2:zb=true:=by simpa using h2
  subst h1 h2
  go_wp2_with fail
  refine (rbot_any w2 _ (by repeat (first | exact Ok.refl _ | refine Ok.alloc ?_ _ | refine Ok.draws ?_ _ | fail))).mono ?_
  rintro e w9 ⟨rfl,hb⟩
  have hr:Hid _:=Ok.row' hb rz.out
  obtain ⟨k0,k1,k2,k3,k4,k5,k6,k7,k8,k9⟩:=row5_facts hr.out
  unfold nv botN
  go_wp2_with fail
  (try simp only [Exit.inBlock, Exit.then]); refine bodyPost_ret (results_cell_row rfl _ _ (w.heap.size+1+1) 29 #[_, _, _, _, _] (0, 0) _ rfl (row_set5 hr.out _ _ _ _ _) Tryz.underlying29 rfl infoN) rfl ?_
  exact ⟨(by rw [HA.out];rfl),Ok.set (Ok.set (Ok.set (Ok.set (Ok.set (Hw2.out.step hb) (show w0.heap.size<=w.heap.size+1+1 by omega) _) (show w0.heap.size<=w.heap.size+1+1 by omega) _) (show w0.heap.size<=w.heap.size+1+1 by omega) _) (show w0.heap.size<=w.heap.size+1+1 by omega) _) (show w0.heap.size<=w.heap.size+1+1 by omega) _⟩
 have HN:Hid (¬(za=false\/zb=false\/b<a)):=by rintro (h | h | h);exact h1 h;exact h2 h;exact h3 h
 replace h1:za=true:=by simpa using h1
 replace h2:zb=true:=by simpa using h2
 by_cases h4:a=b
 ·have HA:Hid (ans=constN a):=by unfold Hid;rw [HS.out,if_neg HN.out,if_pos h4]
  clear HS HN h3
  subst h1 h2 h4
  have d:decide (a<a)=false:=decide_eq_false (by omega)
  have d2:decide (a=a)=true:=decide_eq_true rfl
  go_wp2_with fail
  refine (rconst_any a w2 _ (by repeat (first | exact Ok.refl _ | refine Ok.alloc ?_ _ | refine Ok.draws ?_ _ | fail))).mono ?_
  rintro e w9 ⟨rfl,hb⟩
  have hr:Hid _:=Ok.row' hb rz.out
  obtain ⟨k0,k1,k2,k3,k4,k5,k6,k7,k8,k9⟩:=row5_facts hr.out
  unfold nv constN
  go_wp2_with fail
  (try simp only [Exit.inBlock, Exit.then]); refine bodyPost_ret (results_cell_row rfl _ _ (w.heap.size+1+1) 29 #[_, _, _, _, _] (0, 0) _ rfl (row_set5 hr.out _ _ _ _ _) Tryz.underlying29 rfl infoN) rfl ?_
  exact ⟨(by rw [HA.out];rfl),Ok.set (Ok.set (Ok.set (Ok.set (Ok.set (Hw2.out.step hb) (show w0.heap.size<=w.heap.size+1+1 by omega) _) (show w0.heap.size<=w.heap.size+1+1 by omega) _) (show w0.heap.size<=w.heap.size+1+1 by omega) _) (show w0.heap.size<=w.heap.size+1+1 by omega) _) (show w0.heap.size<=w.heap.size+1+1 by omega) _⟩
 have HA:Hid (ans=(a,b,c.1,c.2,false)):=by unfold Hid;rw [HS.out,if_neg HN.out,if_neg h4]
 clear HS HN
 subst h1 h2
 have h5:a<=b:=by omega
 go_wp2_with fail
 refine (cnorm_any M R w2 _ (by repeat (first | exact Ok.refl _ | refine Ok.alloc ?_ _ | refine Ok.draws ?_ _ | fail))).mono ?_
 rintro e w9 ⟨rfl,hb⟩
 have hr:Hid _:=Ok.row' hb rz.out
 obtain ⟨k0,k1,k2,k3,k4,k5,k6,k7,k8,k9⟩:=row5_facts hr.out
 rw [<-EC.out]
 unfold cv
 go_wp2_with fail
 (try simp only [Exit.inBlock, Exit.then]); refine bodyPost_ret (results_cell_row rfl _ _ (w.heap.size+1+1) 29 #[_, _, _, _, _] (0, 0) _ rfl (row_set5 hr.out _ _ _ _ _) Tryz.underlying29 rfl infoN) rfl ?_
 exact ⟨(by rw [HA.out];rfl),Ok.set (Ok.set (Ok.set (Ok.set (Ok.set (Hw2.out.step hb) (show w0.heap.size<=w.heap.size+1+1 by omega) _) (show w0.heap.size<=w.heap.size+1+1 by omega) _) (show w0.heap.size<=w.heap.size+1+1 by omega) _) (show w0.heap.size<=w.heap.size+1+1 by omega) _) (show w0.heap.size<=w.heap.size+1+1 by omega) _⟩
set_option maxRecDepth 100000 in
theorem rnorm_any (a:Int×Int×Nat×Nat×Bool) (ha:RawN a) (w0 w:World) (hok:Ok w0 w) :
  Calls Tryz.prog 20 #[nv a] w fun e w'=>e=.returned (nv (normN a))/\Ok w0 w':=by
 have hle:=hok.le
 obtain ⟨l,h,M,R,B⟩:=a
 have HU:Hid _:=ha
 clear ha
 generalize hans:normN (l,h,M,R,B)=ans
 have HS:Hid _:=hans
 clear hans
 unfold nv
 simp only
 go_enter Tryz.func20,Tryz.ntmps20
 cases B
 ·have HA:Hid (ans=makeN l h M R):=by unfold Hid;rw [<-HS.out];rfl
  clear HS
  go_wp2_with fail
  obtain ⟨W,hW⟩:∃ W,W=((w).alloc (.cells #[.bool false,.int .i64 l,.int .i64 h,.int .u64 (M:Int),.int .u64 (R:Int)] 29)).alloc (.cells #[.bool false,.int .i64 0,.int .i64 0,.int .u64 0,.int .u64 0] 29):=⟨_,rfl⟩
  have rz:Hid (W.heap[w.heap.size+1]?=some (.cells #[.bool false,.int .i64 0,.int .i64 0,.int .u64 0,.int .u64 0] 29)):=by unfold Hid;rw [hW];exact jj
  have HW:Hid (Ok w0 W):=by unfold Hid;rw [hW];exact (by repeat (first | exact hok | refine Ok.alloc ?_ _ | refine Ok.draws ?_ _ | fail))
  rw [<-hW]
  clear hW
  refine (rmake_any l h M R HU.out.1 HU.out.2.1 HU.out.2.2.1 HU.out.2.2.2 W _ (by repeat (first | exact Ok.refl _ | refine Ok.alloc ?_ _ | refine Ok.draws ?_ _ | fail))).mono ?_
  rintro e w1 ⟨rfl,hb⟩
  have hr:Hid _:=Ok.row' hb rz.out
  obtain ⟨k0,k1,k2,k3,k4,k5,k6,k7,k8,k9⟩:=row5_facts hr.out
  rw [<-HA.out]
  unfold nv
  go_wp2_with fail
  (try simp only [Exit.inBlock, Exit.then]); refine bodyPost_ret (results_cell_row rfl _ _ (w.heap.size+1) 29 #[_, _, _, _, _] (0, 0) _ rfl (row_set5 hr.out _ _ _ _ _) Tryz.underlying29 rfl infoN) rfl ?_
  exact ⟨rfl,Ok.set (Ok.set (Ok.set (Ok.set (Ok.set (HW.out.step hb) (show w0.heap.size<=w.heap.size+1 by omega) _) (show w0.heap.size<=w.heap.size+1 by omega) _) (show w0.heap.size<=w.heap.size+1 by omega) _) (show w0.heap.size<=w.heap.size+1 by omega) _) (show w0.heap.size<=w.heap.size+1 by omega) _⟩
 ·have HA:Hid (ans=botN):=by unfold Hid;rw [<-HS.out];rfl
  clear HS
  go_wp2_with fail
  obtain ⟨W,hW⟩:∃ W,W=((w).alloc (.cells #[.bool true,.int .i64 l,.int .i64 h,.int .u64 (M:Int),.int .u64 (R:Int)] 29)).alloc (.cells #[.bool false,.int .i64 0,.int .i64 0,.int .u64 0,.int .u64 0] 29):=⟨_,rfl⟩
  have rz:Hid (W.heap[w.heap.size+1]?=some (.cells #[.bool false,.int .i64 0,.int .i64 0,.int .u64 0,.int .u64 0] 29)):=by unfold Hid;rw [hW];exact jj
  have HW:Hid (Ok w0 W):=by unfold Hid;rw [hW];exact (by repeat (first | exact hok | refine Ok.alloc ?_ _ | refine Ok.draws ?_ _ | fail))
  rw [<-hW]
  clear hW
  refine (rbot_any W _ (by repeat (first | exact Ok.refl _ | refine Ok.alloc ?_ _ | refine Ok.draws ?_ _ | fail))).mono ?_
  rintro e w1 ⟨rfl,hb⟩
  have hr:Hid _:=Ok.row' hb rz.out
  obtain ⟨k0,k1,k2,k3,k4,k5,k6,k7,k8,k9⟩:=row5_facts hr.out
  unfold nv botN
  go_wp2_with fail
  (try simp only [Exit.inBlock, Exit.then]); refine bodyPost_ret (results_cell_row rfl _ _ (w.heap.size+1) 29 #[_, _, _, _, _] (0, 0) _ rfl (row_set5 hr.out _ _ _ _ _) Tryz.underlying29 rfl infoN) rfl ?_
  exact ⟨(by rw [HA.out];rfl),Ok.set (Ok.set (Ok.set (Ok.set (Ok.set (HW.out.step hb) (show w0.heap.size<=w.heap.size+1 by omega) _) (show w0.heap.size<=w.heap.size+1 by omega) _) (show w0.heap.size<=w.heap.size+1 by omega) _) (show w0.heap.size<=w.heap.size+1 by omega) _) (show w0.heap.size<=w.heap.size+1 by omega) _⟩
set_option maxRecDepth 100000 in
theorem rrange_any (l h:Int) (hl:In64 l) (hh:In64 h) (w0 w:World) (hok:Ok w0 w) :
  Calls Tryz.prog 14 #[.int .i64 l,.int .i64 h] w fun e w'=>e=.returned (nv (makeN l h 1 0))/\Ok w0 w':=by
 have hle:=hok.le
 have HU:Hid _:=And.intro hl hh
 clear hl hh
 go_enter Tryz.func14,Tryz.ntmps14
 go_wp2_with fail
 obtain ⟨W,hW⟩:∃ W,W=(w).alloc (.cells #[.bool false,.int .i64 0,.int .i64 0,.int .u64 0,.int .u64 0] 29):=⟨_,rfl⟩
 have rz:Hid (W.heap[w.heap.size]?=some (.cells #[.bool false,.int .i64 0,.int .i64 0,.int .u64 0,.int .u64 0] 29)):=by unfold Hid;rw [hW];exact jj
 have HW:Hid (Ok w0 W):=by unfold Hid;rw [hW];exact (by repeat (first | exact hok | refine Ok.alloc ?_ _ | refine Ok.draws ?_ _ | fail))
 rw [<-hW]
 clear hW
 refine (rall_any W _ (by repeat (first | exact Ok.refl _ | refine Ok.alloc ?_ _ | refine Ok.draws ?_ _ | fail))).mono ?_
 rintro e w1 ⟨rfl,hb⟩
 replace rz:Hid _:=Ok.row' hb rz.out
 have Hw1:Hid (Ok w0 w1):=HW.out.step hb
 clear hb
 unfold cv
 go_wp2_with fail
 refine (rmake_any l h 1 0 HU.out.1 HU.out.2 u_one u_zero w1 _ (by repeat (first | exact Ok.refl _ | refine Ok.alloc ?_ _ | refine Ok.draws ?_ _ | fail))).mono ?_
 rintro e w2 ⟨rfl,hb⟩
 have hr:Hid _:=Ok.row' hb rz.out
 obtain ⟨k0,k1,k2,k3,k4,k5,k6,k7,k8,k9⟩:=row5_facts hr.out
 unfold nv
 go_wp2_with fail
 (try simp only [Exit.inBlock, Exit.then]); refine bodyPost_ret (results_cell_row rfl _ _ (w.heap.size) 29 #[_, _, _, _, _] (0, 0) _ rfl (row_set5 hr.out _ _ _ _ _) Tryz.underlying29 rfl infoN) rfl ?_
 exact ⟨rfl,Ok.set (Ok.set (Ok.set (Ok.set (Ok.set (Hw1.out.step hb) (show w0.heap.size<=w.heap.size by omega) _) (show w0.heap.size<=w.heap.size by omega) _) (show w0.heap.size<=w.heap.size by omega) _) (show w0.heap.size<=w.heap.size by omega) _) (show w0.heap.size<=w.heap.size by omega) _⟩
set_option maxRecDepth 100000 in
theorem rnhas_any (a:Int×Int×Nat×Nat×Bool) (v:Int) (ha:RawN a) (w0 w:World) (hok:Ok w0 w) :
  Calls Tryz.prog 10 #[nv a,.int .i64 v] w fun e w'=>e=.returned (.bool (insN a v))/\Ok w0 w':=by
 have hle:=hok.le
 obtain ⟨l,h,M,R,B⟩:=a
 have HU:Hid _:=ha
 clear ha
 generalize hans:insN (l,h,M,R,B) v=ans
 have HS:Hid _:=hans
 clear hans
 unfold nv
 simp only
 go_enter Tryz.func10,Tryz.ntmps10
 cases B
 ·obtain ⟨x,hx⟩:∃ x,x=hasI l h v:=⟨_,rfl⟩
  have HA:Hid (ans=(x&&hasC M R v)):=by unfold Hid;rw [<-HS.out,hx];rfl
  clear HS
  have HX:Hid _:=hx
  clear hx
  go_wp2_with fail
  obtain ⟨W,hW⟩:∃ W,W=(w).alloc (.cells #[.bool false,.int .i64 l,.int .i64 h,.int .u64 (M:Int),.int .u64 (R:Int)] 29):=⟨_,rfl⟩
  have ra:Hid (W.heap[w.heap.size]?=some (.cells #[.bool false,.int .i64 l,.int .i64 h,.int .u64 (M:Int),.int .u64 (R:Int)] 29)):=by unfold Hid;rw [hW];exact jj
  have HW:Hid (Ok w0 W):=by unfold Hid;rw [hW];exact (by repeat (first | exact hok | refine Ok.alloc ?_ _ | refine Ok.draws ?_ _ | fail))
  rw [<-hW]
  clear hW
  refine (rhas_any l h v W _ (by repeat (first | exact Ok.refl _ | refine Ok.alloc ?_ _ | refine Ok.draws ?_ _ | fail))).mono ?_
  rintro e w1 ⟨rfl,hb⟩
  replace ra:Hid _:=Ok.row' hb ra.out
  have Hw1:Hid (Ok w0 w1):=HW.out.step hb
  clear hb
  rw [<-HX.out]
  obtain ⟨a0,a1,a2,a3,a4,a5,a6,a7,a8,a9⟩:=row5_facts ra.out
  cases x
  ·go_wp2_with fail
   go_ret
   exact ⟨by rw [HA.out];rfl,Hw1.out⟩
  ·go_wp2_with fail
   refine (chas_any M R v HU.out.2.2.1 HU.out.2.2.2 w1 _ (by repeat (first | exact Ok.refl _ | refine Ok.alloc ?_ _ | refine Ok.draws ?_ _ | fail))).mono ?_
   rintro e w2 ⟨rfl,hb⟩
   have Hw2:Hid (Ok w0 w2):=Hw1.out.step hb
   clear hb
   go_wp2_with fail
   go_ret
   exact ⟨by rw [HA.out];rfl,Hw2.out⟩
 ·have HA:Hid (ans=false):=by unfold Hid;rw [<-HS.out];rfl
  clear HS
  go_wp2_with fail
  go_ret
  exact ⟨by rw [HA.out];rfl,hok.alloc _⟩
set_option maxRecDepth 100000 in
theorem rnleq_any (a b:Int×Int×Nat×Nat×Bool) (ha:RawN a) (hb:RawN b) (w0 w:World) (hok:Ok w0 w) :
  Calls Tryz.prog 8 #[nv a,nv b] w fun e w'=>e=.returned (.bool (lqN a b))/\Ok w0 w':=by
 have hle:=hok.le
 have HU:Hid _:=And.intro ha hb
 clear ha hb
 obtain ⟨x,hx⟩:∃ x,x=normN a:=⟨_,rfl⟩
 obtain ⟨y,hy⟩:∃ x,x=normN b:=⟨_,rfl⟩
 have HS:Hid (lqN a b=leqN x y):=by unfold Hid lqN;rw [hx,hy]
 have RX:Hid (RawN x/\RawN y):=by rw [hx,hy];exact ⟨normN_raw HU.out.1,normN_raw HU.out.2⟩
 have NX:Hid (NormN x/\NormN y):=by rw [hx,hy];exact ⟨normN_norm HU.out.1,normN_norm HU.out.2⟩
 have HX:Hid _:=hx
 have HY:Hid _:=hy
 clear hx hy
 unfold nv
 go_enter Tryz.func8,Tryz.ntmps8
 go_wp2_with fail
 obtain ⟨W,hW⟩:∃ W,W=((w).alloc (.cells #[.bool a.2.2.2.2,.int .i64 a.1,.int .i64 a.2.1,.int .u64 (a.2.2.1:Int),.int .u64 (a.2.2.2.1:Int)] 29)).alloc (.cells #[.bool b.2.2.2.2,.int .i64 b.1,.int .i64 b.2.1,.int .u64 (b.2.2.1:Int),.int .u64 (b.2.2.2.1:Int)] 29):=⟨_,rfl⟩
 have ra:Hid (W.heap[w.heap.size]?=some (.cells #[.bool a.2.2.2.2,.int .i64 a.1,.int .i64 a.2.1,.int .u64 (a.2.2.1:Int),.int .u64 (a.2.2.2.1:Int)] 29)):=by unfold Hid;rw [hW];exact jj
 have rb:Hid (W.heap[w.heap.size+1]?=some (.cells #[.bool b.2.2.2.2,.int .i64 b.1,.int .i64 b.2.1,.int .u64 (b.2.2.1:Int),.int .u64 (b.2.2.2.1:Int)] 29)):=by unfold Hid;rw [hW];exact jj
 have HW:Hid (Ok w0 W):=by unfold Hid;rw [hW];exact (by repeat (first | exact hok | refine Ok.alloc ?_ _ | refine Ok.draws ?_ _ | fail))
 rw [<-hW]
 clear hW
 apply wp_cutN (fun w1=>Hid (Ok w0 w1/\w1.heap[w.heap.size]?=some (.cells #[.bool x.2.2.2.2,.int .i64 x.1,.int .i64 x.2.1,.int .u64 (x.2.2.1:Int),.int .u64 (x.2.2.2.1:Int)] 29)/\w1.heap[w.heap.size+1]?=some (.cells #[.bool y.2.2.2.2,.int .i64 y.1,.int .i64 y.2.1,.int .u64 (y.2.2.1:Int),.int .u64 (y.2.2.2.1:Int)] 29)/\(∀ (h:Nat) (o:Obj),h≠w.heap.size->h≠w.heap.size+1->W.heap[h]?=some o->w1.heap[h]?=some o)))
 case h1 =>
  obtain ⟨a0,a1,a2,a3,a4,a5,a6,a7,a8,a9⟩:=row5_facts ra.out
  obtain ⟨b0,b1,b2,b3,b4,b5,b6,b7,b8,b9⟩:=row5_facts rb.out
  have bz:Ok W W:=Ok.refl _
  go_region_with (go_at_call 20;refine (rnorm_any _ (by first | exact HU.out.1 | exact HU.out.2) W _ (by first | assumption | exact Below.drew (by assumption))).mono ?_;rintro e w1 ⟨rfl,hb⟩;(first | rw [<-HX.out] | rw [<-HY.out]);unfold nv;obtain ⟨a0,a1,a2,a3,a4,a5,a6,a7,a8,a9⟩:=row5_facts (Ok.row' hb ra.out);obtain ⟨b0,b1,b2,b3,b4,b5,b6,b7,b8,b9⟩:=row5_facts (Ok.row' hb rb.out))
  all_goals exact ⟨rfl,rows_put2 (by omega) ra.out rb.out hb HW.out (by omega) (by omega) _ _ _ _ _ _ _ _ _ _⟩
 case h2 =>
  rintro Z H
  obtain ⟨HZ,raz,rbz,keep⟩:=H.out
  replace HZ:Hid (Ok w0 Z):=HZ
  replace raz:Hid _:=raz
  replace rbz:Hid _:=rbz
  clear H ra rb keep
  obtain ⟨a0,a1,a2,a3,a4,a5,a6,a7,a8,a9⟩:=row5_facts raz.out
  obtain ⟨b0,b1,b2,b3,b4,b5,b6,b7,b8,b9⟩:=row5_facts rbz.out
  cases hxb:x.2.2.2.2
  ·rw [hxb] at a0
   cases hyb:y.2.2.2.2
   ·rw [hyb] at b0
    have HA:Hid (leqN x y=(leqI x.1 x.2.1 y.1 y.2.1&&leqC x.2.2.1 x.2.2.2.1 y.2.2.1 y.2.2.2.1)):=leqN_some NX.out.1 hxb hyb
    obtain ⟨p,hp⟩:∃ p,p=leqI x.1 x.2.1 y.1 y.2.1:=⟨_,rfl⟩
    rw [<-hp] at HA
    have HP:Hid _:=hp
    clear hp
    go_wp2_with fail
    refine (rleq_any x.1 x.2.1 y.1 y.2.1 Z _ (by repeat (first | exact Ok.refl _ | refine Ok.alloc ?_ _ | refine Ok.draws ?_ _ | fail))).mono ?_
    rintro e z1 ⟨rfl,hb⟩
    replace raz:Hid _:=Ok.row' hb raz.out
    replace rbz:Hid _:=Ok.row' hb rbz.out
    have Hz1:Hid (Ok w0 z1):=HZ.out.step hb
    clear hb
    rw [<-HP.out]
    clear a0 a1 a2 a3 a4 a5 a6 a7 a8 a9 b0 b1 b2 b3 b4 b5 b6 b7 b8 b9
    obtain ⟨a0,a1,a2,a3,a4,a5,a6,a7,a8,a9⟩:=row5_facts raz.out
    obtain ⟨b0,b1,b2,b3,b4,b5,b6,b7,b8,b9⟩:=row5_facts rbz.out
    cases p
    ·go_wp2_with fail
     go_ret
     exact ⟨by rw [HS.out,HA.out];rfl,Hz1.out⟩
    ·go_wp2_with fail
     refine (cleq_any x.2.2.1 x.2.2.2.1 y.2.2.1 y.2.2.2.1 RX.out.1.2.2.1 RX.out.1.2.2.2 RX.out.2.2.2.1 RX.out.2.2.2.2 z1 _ (by repeat (first | exact Ok.refl _ | refine Ok.alloc ?_ _ | refine Ok.draws ?_ _ | fail))).mono ?_
     rintro e z2 ⟨rfl,hb⟩
     have Hz2:Hid (Ok w0 z2):=Hz1.out.step hb
     clear hb
     go_wp2_with fail
     go_ret
     exact ⟨by rw [HS.out,HA.out];rfl,Hz2.out⟩
   ·rw [hyb] at b0
    have HA:Hid (leqN x y=false):=by unfold Hid leqN;rw [if_pos (Or.inr hyb),hxb]
    go_wp2_with fail
    go_ret
    exact ⟨by rw [HS.out,HA.out];rfl,HZ.out⟩
  ·rw [hxb] at a0
   have HA:Hid (leqN x y=true):=by unfold Hid leqN;rw [if_pos (Or.inl hxb),hxb]
   go_wp2_with fail
   go_ret
   exact ⟨by rw [HS.out,HA.out];rfl,HZ.out⟩
end Go.Proofs.YtnjmjnmhldhaoaaGreat
