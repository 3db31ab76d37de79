import Derived.Deep.CutRange
import Derived.Test.YtpjpjhjjhoeijaaGreatKNm
set_option maxHeartbeats 8000000
set_option linter.all false
namespace Go.Proofs.YtpjpjhjjhoeijaaGreat
section
open Go.RowKit
theorem rempty_any (l h:Int) (w0 w:World) (hok:Ok w0 w) :
  Calls Tryz.prog 100 #[.agg #[.int .i64 l,.int .i64 h]] w fun e w'=>e=.returned (.bool (decide (h<l)))/\Ok w0 w' :=
 (rempty_ex l h w).mono (fun e w' k=>⟨k.1,by rw [k.2];exact hok.alloc _⟩)
theorem rconst_any (v:Int) (w0 w:World) (hok:Ok w0 w) :
  Calls Tryz.prog 29 #[.int .i64 v] w fun e w'=>e=.returned (nv (constN v))/\Ok w0 w':=by
 have hle:=hok.le
 go_enter Tryz.func29,Tryz.ntmps29
 go_wp2_with fail
 refine (cconst_any v _ _ (Ok.refl _)).mono ?_
 rintro e w' ⟨rfl,hb⟩
 have hr : Hid _ := Ok.row' (g := w.heap.size) (o := .cells #[.bool false, .int .i64 0, .int .i64 0, .int .u64 0, .int .u64 0] 29) hb jj; obtain ⟨k0, k1, k2, k3, k4, k5, k6, k7, k8, k9⟩ := row5_facts hr.out
 unfold cv
 go_wp2_with fail
 (try simp only [Exit.inBlock, Exit.then]); refine bodyPost_ret (results_cell_row rfl _ _ (w.heap.size) 29 #[_, _, _, _, _] (0, 0) _ rfl (row_set5 hr.out _ _ _ _ _) Tryz.underlying29 rfl infoN) rfl ?_
 exact ⟨rfl,(((((Ok.step (by repeat (first | exact hok | refine Ok.alloc ?_ _ | refine Ok.draws ?_ _ | fail)) hb).set (show w0.heap.size ≤ w.heap.size by omega) _).set (show w0.heap.size ≤ w.heap.size by omega) _).set (show w0.heap.size ≤ w.heap.size by omega) _).set (show w0.heap.size ≤ w.heap.size by omega) _).set (show w0.heap.size ≤ w.heap.size by omega) _⟩
set_option maxRecDepth 100000 in
theorem rmake_any (l h:Int) (M R:Nat) (hl:In64 l) (hh:In64 h) (hM:U64 M) (hR:U64 R) (w0 w:World) (hok:Ok w0 w) :
  Calls Tryz.prog 33 #[.agg #[.int .i64 l,.int .i64 h],cv M R] w fun e w'=>e=.returned (nv (makeN l h M R))/\Ok w0 w':=by
 have hle:=hok.le
 obtain ⟨a,ea⟩:∃ z,z=(upC M R l).1:=⟨_,rfl⟩
 obtain ⟨za,eza⟩:∃ z,z=(upC M R l).2:=⟨_,rfl⟩
 obtain ⟨b,eb⟩:∃ z,z=(downC M R h).1:=⟨_,rfl⟩
 obtain ⟨zb,ezb⟩:∃ z,z=(downC M R h).2:=⟨_,rfl⟩
 obtain ⟨c,ec⟩:∃ z,z=normC M R:=⟨_,rfl⟩
 have HU:Hid _:=And.intro hl (And.intro hh (And.intro hM hR))
 obtain ⟨ans,hans⟩:∃ z,z=makeN l h M R:=⟨_,rfl⟩
 have HS:Hid (ans=if h<l then botN else if za=false\/zb=false\/b<a then botN else if a=b then constN a else (a,b,c.1,c.2,false)):=by unfold Hid;rw [hans,ea,eza,eb,ezb,ec];rfl
 rw [<-hans]
 have EA:Hid _:=ea
 have EZA:Hid _:=eza
 have EB:Hid _:=eb
 have EZB:Hid _:=ezb
 have EC:Hid _:=ec
 clear ea eza eb ezb ec hl hh hM hR hans
 unfold cv
 go_enter Tryz.func33,Tryz.ntmps33
 go_wp2_with fail
 obtain ⟨W,hW⟩:∃ W,W=(((w).alloc (.cells #[.int .i64 l,.int .i64 h] 24)).alloc (.cells #[.int .u64 (M:Int),.int .u64 (R:Int)] 27)).alloc (.cells #[.bool false,.int .i64 0,.int .i64 0,.int .u64 0,.int .u64 0] 29):=⟨_,rfl⟩
 have ra:Hid (W.heap[w.heap.size]?=some (.cells #[.int .i64 l,.int .i64 h] 24)):=by unfold Hid;rw [hW];exact jj
 have rb:Hid (W.heap[w.heap.size+1]?=some (.cells #[.int .u64 (M:Int),.int .u64 (R:Int)] 27)):=by unfold Hid;rw [hW];exact jj
 have rz:Hid (W.heap[w.heap.size+1+1]?=some (.cells #[.bool false,.int .i64 0,.int .i64 0,.int .u64 0,.int .u64 0] 29)):=by unfold Hid;rw [hW];exact jj
 have HW:Hid (Ok w0 W):=by unfold Hid;rw [hW];exact (by repeat (first | exact hok | refine Ok.alloc ?_ _ | refine Ok.draws ?_ _ | fail))
 rw [<-hW]
 clear hW
 clear hok
 refine (rempty_any l h W _ (by repeat (first | exact Ok.refl _ | refine Ok.alloc ?_ _ | refine Ok.draws ?_ _ | fail))).mono ?_
 rintro e w0a ⟨rfl,hb⟩
 replace ra:Hid _:=Ok.row' hb ra.out
 replace rb:Hid _:=Ok.row' hb rb.out
 replace rz:Hid _:=Ok.row' hb rz.out
 have Hw0a:Hid (Ok w0 w0a):=HW.out.step hb
 clear hb
 obtain ⟨a0,a1,a2,a3⟩:=row_facts ra.out
 obtain ⟨b0,b1,b2,b3⟩:=row_facts rb.out
 obtain ⟨k0,k1,k2,k3,k4,k5,k6,k7,k8,k9⟩:=row5_facts rz.out
 by_cases hlt:h<l
 ·have HA:Hid (ans=botN):=by unfold Hid;rw [HS.out,if_pos hlt]
  have d0:decide (h<l)=true:=decide_eq_true hlt
  clear HS
  rw [d0]
  go_wp2_with fail
  refine (rbot_any w0a _ (by repeat (first | exact Ok.refl _ | refine Ok.alloc ?_ _ | refine Ok.draws ?_ _ | fail))).mono ?_
  rintro e w9 ⟨rfl,hb⟩
  have hr:Hid _:=Ok.row' hb rz.out
  obtain ⟨k0,k1,k2,k3,k4,k5,k6,k7,k8,k9⟩:=row5_facts hr.out
  unfold nv botN
  go_wp2_with fail
  (try simp only [Exit.inBlock, Exit.then]); refine bodyPost_ret (results_cell_row rfl _ _ (w.heap.size+1+1) 29 #[_, _, _, _, _] (0, 0) _ rfl (row_set5 hr.out _ _ _ _ _) Tryz.underlying29 rfl infoN) rfl ?_
  exact ⟨(by rw [HA.out];rfl),Ok.set (Ok.set (Ok.set (Ok.set (Ok.set (Hw0a.out.step hb) (show w0.heap.size<=w.heap.size+1+1 by omega) _) (show w0.heap.size<=w.heap.size+1+1 by omega) _) (show w0.heap.size<=w.heap.size+1+1 by omega) _) (show w0.heap.size<=w.heap.size+1+1 by omega) _) (show w0.heap.size<=w.heap.size+1+1 by omega) _⟩
 have d0:decide (h<l)=false:=decide_eq_false hlt
 replace HS:Hid (ans=if za=false\/zb=false\/b<a then botN else if a=b then constN a else (a,b,c.1,c.2,false)):=by unfold Hid;rw [HS.out,if_neg hlt]
 rw [d0]
 clear hlt d0
 go_wp2_with fail
 clear k0 k1 k2 k3 k4 k5 k6 k7 k8 k9
 clear a0 a1 a2 a3 b0 b1 b2 b3
 refine (cup_any M R l HU.out.2.2.1 HU.out.2.2.2 HU.out.1 w0a _ (by repeat (first | exact Ok.refl _ | refine Ok.alloc ?_ _ | refine Ok.draws ?_ _ | fail))).mono ?_
 rintro e w1 ⟨rfl,hb⟩
 replace ra:Hid _:=Ok.row' hb ra.out
 replace rb:Hid _:=Ok.row' hb rb.out
 replace rz:Hid _:=Ok.row' hb rz.out
 have Hw1:Hid (Ok w0 w1):=Hw0a.out.step hb
 clear hb
 rw [<-EA.out,<-EZA.out]
 obtain ⟨a0,a1,a2,a3⟩:=row_facts ra.out
 obtain ⟨b0,b1,b2,b3⟩:=row_facts rb.out
 go_wp2_with fail
 refine (cdown_any M R h HU.out.2.2.1 HU.out.2.2.2 HU.out.2.1 w1 _ (by repeat (first | exact Ok.refl _ | refine Ok.alloc ?_ _ | refine Ok.draws ?_ _ | fail))).mono ?_
 rintro e w2 ⟨rfl,hb⟩
 replace ra:Hid _:=Ok.row' hb ra.out
 replace rb:Hid _:=Ok.row' hb rb.out
 replace rz:Hid _:=Ok.row' hb rz.out
 have Hw2:Hid (Ok w0 w2):=Hw1.out.step hb
 clear hb
 rw [<-EB.out,<-EZB.out]
 clear a0 a1 a2 a3 b0 b1 b2 b3
 obtain ⟨a0,a1,a2,a3⟩:=row_facts ra.out
 obtain ⟨b0,b1,b2,b3⟩:=row_facts rb.out
 obtain ⟨k0,k1,k2,k3,k4,k5,k6,k7,k8,k9⟩:=row5_facts rz.out
 by_cases h1:za=false
 ·have HA:Hid (ans=botN):=by unfold Hid;rw [HS.out,if_pos (Or.inl h1)]
  clear HS
  subst h1
  go_wp2_with fail
  refine (rbot_any w2 _ (by repeat (first | exact Ok.refl _ | refine Ok.alloc ?_ _ | refine Ok.draws ?_ _ | fail))).mono ?_
  rintro e w9 ⟨rfl,hb⟩
  have hr:Hid _:=Ok.row' hb rz.out
  obtain ⟨k0,k1,k2,k3,k4,k5,k6,k7,k8,k9⟩:=row5_facts hr.out
  unfold nv botN
  go_wp2_with fail
  (try simp only [Exit.inBlock, Exit.then]); refine bodyPost_ret (results_cell_row rfl _ _ (w.heap.size+1+1) 29 #[_, _, _, _, _] (0, 0) _ rfl (row_set5 hr.out _ _ _ _ _) Tryz.underlying29 rfl infoN) rfl ?_
  exact ⟨(by rw [HA.out];rfl),Ok.set (Ok.set (Ok.set (Ok.set (Ok.set (Hw2.out.step hb) (show w0.heap.size<=w.heap.size+1+1 by omega) _) (show w0.heap.size<=w.heap.size+1+1 by omega) _) (show w0.heap.size<=w.heap.size+1+1 by omega) _) (show w0.heap.size<=w.heap.size+1+1 by omega) _) (show w0.heap.size<=w.heap.size+1+1 by omega) _⟩
 by_cases h2:zb=false
 ·have HA:Hid (ans=botN):=by unfold Hid;rw [HS.out,if_pos (Or.inr (Or.inl h2))]
  clear HS
  subst h2
  replace h1:za=true:=by simpa using h1
  subst h1
  go_wp2_with fail
  refine (rbot_any w2 _ (by repeat (first | exact Ok.refl _ | refine Ok.alloc ?_ _ | refine Ok.draws ?_ _ | fail))).mono ?_
  rintro e w9 ⟨rfl,hb⟩
  have hr:Hid _:=Ok.row' hb rz.out
  obtain ⟨k0,k1,k2,k3,k4,k5,k6,k7,k8,k9⟩:=row5_facts hr.out
  unfold nv botN
  go_wp2_with fail
  (try simp only [Exit.inBlock, Exit.then]); refine bodyPost_ret (results_cell_row rfl _ _ (w.heap.size+1+1) 29 #[_, _, _, _, _] (0, 0) _ rfl (row_set5 hr.out _ _ _ _ _) Tryz.underlying29 rfl infoN) rfl ?_
  exact ⟨(by rw [HA.out];rfl),Ok.set (Ok.set (Ok.set (Ok.set (Ok.set (Hw2.out.step hb) (show w0.heap.size<=w.heap.size+1+1 by omega) _) (show w0.heap.size<=w.heap.size+1+1 by omega) _) (show w0.heap.size<=w.heap.size+1+1 by omega) _) (show w0.heap.size<=w.heap.size+1+1 by omega) _) (show w0.heap.size<=w.heap.size+1+1 by omega) _⟩
 by_cases h3:b<a
 ·have HA:Hid (ans=botN):=by unfold Hid;rw [HS.out,if_pos (Or.inr (Or.inr h3))]
  clear HS
  replace h1:za=true:=by simpa using h1
  replace h2:zb=true:=by simpa using h2
  subst h1 h2
  go_wp2_with fail
  refine (rbot_any w2 _ (by repeat (first | exact Ok.refl _ | refine Ok.alloc ?_ _ | refine Ok.draws ?_ _ | fail))).mono ?_
  rintro e w9 ⟨rfl,hb⟩
  have hr:Hid _:=Ok.row' hb rz.out
  obtain ⟨k0,k1,k2,k3,k4,k5,k6,k7,k8,k9⟩:=row5_facts hr.out
  unfold nv botN
  go_wp2_with fail
  (try simp only [Exit.inBlock, Exit.then]); refine bodyPost_ret (results_cell_row rfl _ _ (w.heap.size+1+1) 29 #[_, _, _, _, _] (0, 0) _ rfl (row_set5 hr.out _ _ _ _ _) Tryz.underlying29 rfl infoN) rfl ?_
  exact ⟨(by rw [HA.out];rfl),Ok.set (Ok.set (Ok.set (Ok.set (Ok.set (Hw2.out.step hb) (show w0.heap.size<=w.heap.size+1+1 by omega) _) (show w0.heap.size<=w.heap.size+1+1 by omega) _) (show w0.heap.size<=w.heap.size+1+1 by omega) _) (show w0.heap.size<=w.heap.size+1+1 by omega) _) (show w0.heap.size<=w.heap.size+1+1 by omega) _⟩
 have HN:Hid (¬(za=false\/zb=false\/b<a)):=by rintro (h | h | h);exact h1 h;exact h2 h;exact h3 h
 replace h1:za=true:=by simpa using h1
 replace h2:zb=true:=by simpa using h2
 by_cases h4:a=b
 ·have HA:Hid (ans=constN a):=by unfold Hid;rw [HS.out,if_neg HN.out,if_pos h4]
  clear HS HN h3
  subst h1 h2 h4
  have d:decide (a<a)=false:=decide_eq_false (by omega)
  have d2:decide (a=a)=true:=decide_eq_true rfl
  go_wp2_with fail
  refine (rconst_any a w2 _ (by repeat (first | exact Ok.refl _ | refine Ok.alloc ?_ _ | refine Ok.draws ?_ _ | fail))).mono ?_
  rintro e w9 ⟨rfl,hb⟩
  have hr:Hid _:=Ok.row' hb rz.out
  obtain ⟨k0,k1,k2,k3,k4,k5,k6,k7,k8,k9⟩:=row5_facts hr.out
  unfold nv constN
  go_wp2_with fail
  (try simp only [Exit.inBlock, Exit.then]); refine bodyPost_ret (results_cell_row rfl _ _ (w.heap.size+1+1) 29 #[_, _, _, _, _] (0, 0) _ rfl (row_set5 hr.out _ _ _ _ _) Tryz.underlying29 rfl infoN) rfl ?_
  exact ⟨(by rw [HA.out];rfl),Ok.set (Ok.set (Ok.set (Ok.set (Ok.set (Hw2.out.step hb) (show w0.heap.size<=w.heap.size+1+1 by omega) _) (show w0.heap.size<=w.heap.size+1+1 by omega) _) (show w0.heap.size<=w.heap.size+1+1 by omega) _) (show w0.heap.size<=w.heap.size+1+1 by omega) _) (show w0.heap.size<=w.heap.size+1+1 by omega) _⟩
 have HA:Hid (ans=(a,b,c.1,c.2,false)):=by unfold Hid;rw [HS.out,if_neg HN.out,if_neg h4]
 clear HS HN
 subst h1 h2
 have h5:a<=b:=by omega
 go_wp2_with fail
 refine (cnorm_any M R w2 _ (by repeat (first | exact Ok.refl _ | refine Ok.alloc ?_ _ | refine Ok.draws ?_ _ | fail))).mono ?_
 rintro e w9 ⟨rfl,hb⟩
 have hr:Hid _:=Ok.row' hb rz.out
 obtain ⟨k0,k1,k2,k3,k4,k5,k6,k7,k8,k9⟩:=row5_facts hr.out
 rw [<-EC.out]
 unfold cv
 go_wp2_with fail
 (try simp only [Exit.inBlock, Exit.then]); refine bodyPost_ret (results_cell_row rfl _ _ (w.heap.size+1+1) 29 #[_, _, _, _, _] (0, 0) _ rfl (row_set5 hr.out _ _ _ _ _) Tryz.underlying29 rfl infoN) rfl ?_
 exact ⟨(by rw [HA.out];rfl),Ok.set (Ok.set (Ok.set (Ok.set (Ok.set (Hw2.out.step hb) (show w0.heap.size<=w.heap.size+1+1 by omega) _) (show w0.heap.size<=w.heap.size+1+1 by omega) _) (show w0.heap.size<=w.heap.size+1+1 by omega) _) (show w0.heap.size<=w.heap.size+1+1 by omega) _) (show w0.heap.size<=w.heap.size+1+1 by omega) _⟩
set_option maxRecDepth 100000 in
theorem rnorm_any (a:Int×Int×Nat×Nat×Bool) (ha:RawN a) (w0 w:World) (hok:Ok w0 w) :
  Calls Tryz.prog 28 #[nv a] w fun e w'=>e=.returned (nv (normN a))/\Ok w0 w':=by
 have hle:=hok.le
 obtain ⟨l,h,M,R,B⟩:=a
 have HU:Hid _:=ha
 clear ha
 generalize hans:normN (l,h,M,R,B)=ans
 have HS:Hid _:=hans
 clear hans
 unfold nv
 simp only
 go_enter Tryz.func28,Tryz.ntmps28
 cases B
 ·have HA:Hid (ans=makeN l h M R):=by unfold Hid;rw [<-HS.out];rfl
  clear HS
  go_wp2_with fail
  obtain ⟨W,hW⟩:∃ W,W=((w).alloc (.cells #[.bool false,.int .i64 l,.int .i64 h,.int .u64 (M:Int),.int .u64 (R:Int)] 29)).alloc (.cells #[.bool false,.int .i64 0,.int .i64 0,.int .u64 0,.int .u64 0] 29):=⟨_,rfl⟩
  have rz:Hid (W.heap[w.heap.size+1]?=some (.cells #[.bool false,.int .i64 0,.int .i64 0,.int .u64 0,.int .u64 0] 29)):=by unfold Hid;rw [hW];exact jj
  have HW:Hid (Ok w0 W):=by unfold Hid;rw [hW];exact (by repeat (first | exact hok | refine Ok.alloc ?_ _ | refine Ok.draws ?_ _ | fail))
  rw [<-hW]
  clear hW
  refine (rmake_any l h M R HU.out.1 HU.out.2.1 HU.out.2.2.1 HU.out.2.2.2 W _ (by repeat (first | exact Ok.refl _ | refine Ok.alloc ?_ _ | refine Ok.draws ?_ _ | fail))).mono ?_
  rintro e w1 ⟨rfl,hb⟩
  have hr:Hid _:=Ok.row' hb rz.out
  obtain ⟨k0,k1,k2,k3,k4,k5,k6,k7,k8,k9⟩:=row5_facts hr.out
  rw [<-HA.out]
  unfold nv
  go_wp2_with fail
  (try simp only [Exit.inBlock, Exit.then]); refine bodyPost_ret (results_cell_row rfl _ _ (w.heap.size+1) 29 #[_, _, _, _, _] (0, 0) _ rfl (row_set5 hr.out _ _ _ _ _) Tryz.underlying29 rfl infoN) rfl ?_
  exact ⟨rfl,Ok.set (Ok.set (Ok.set (Ok.set (Ok.set (HW.out.step hb) (show w0.heap.size<=w.heap.size+1 by omega) _) (show w0.heap.size<=w.heap.size+1 by omega) _) (show w0.heap.size<=w.heap.size+1 by omega) _) (show w0.heap.size<=w.heap.size+1 by omega) _) (show w0.heap.size<=w.heap.size+1 by omega) _⟩
 ·have HA:Hid (ans=botN):=by unfold Hid;rw [<-HS.out];rfl
  clear HS
  go_wp2_with fail
  obtain ⟨W,hW⟩:∃ W,W=((w).alloc (.cells #[.bool true,.int .i64 l,.int .i64 h,.int .u64 (M:Int),.int .u64 (R:Int)] 29)).alloc (.cells #[.bool false,.int .i64 0,.int .i64 0,.int .u64 0,.int .u64 0] 29):=⟨_,rfl⟩
  have rz:Hid (W.heap[w.heap.size+1]?=some (.cells #[.bool false,.int .i64 0,.int .i64 0,.int .u64 0,.int .u64 0] 29)):=by unfold Hid;rw [hW];exact jj
  have HW:Hid (Ok w0 W):=by unfold Hid;rw [hW];exact (by repeat (first | exact hok | refine Ok.alloc ?_ _ | refine Ok.draws ?_ _ | fail))
  rw [<-hW]
  clear hW
  refine (rbot_any W _ (by repeat (first | exact Ok.refl _ | refine Ok.alloc ?_ _ | refine Ok.draws ?_ _ | fail))).mono ?_
  rintro e w1 ⟨rfl,hb⟩
  have hr:Hid _:=Ok.row' hb rz.out
  obtain ⟨k0,k1,k2,k3,k4,k5,k6,k7,k8,k9⟩:=row5_facts hr.out
  unfold nv botN
  go_wp2_with fail
  (try simp only [Exit.inBlock, Exit.then]); refine bodyPost_ret (results_cell_row rfl _ _ (w.heap.size+1) 29 #[_, _, _, _, _] (0, 0) _ rfl (row_set5 hr.out _ _ _ _ _) Tryz.underlying29 rfl infoN) rfl ?_
  exact ⟨(by rw [HA.out];rfl),Ok.set (Ok.set (Ok.set (Ok.set (Ok.set (HW.out.step hb) (show w0.heap.size<=w.heap.size+1 by omega) _) (show w0.heap.size<=w.heap.size+1 by omega) _) (show w0.heap.size<=w.heap.size+1 by omega) _) (show w0.heap.size<=w.heap.size+1 by omega) _) (show w0.heap.size<=w.heap.size+1 by omega) _⟩
end
section
open Go.RowKit
theorem nz_ref {x:Int×Int×Nat×Nat×Bool} (rx:RawN x) (nx:NormN x) (h:x.2.2.2.2=false):nzRaw x=makeN (if x.1=0 then 1 else x.1) (if x.2.1=0 then -1 else x.2.1) x.2.2.1 x.2.2.2.1:=by
 by_cases h1:x.1=0
 ·rw [if_pos h1,nz_low h h1]
  by_cases h2:x.2.1=0
  ·rw [if_pos h2,h2];unfold makeN;rw [if_pos (by omega),if_pos (by omega)]
  ·rw [if_neg h2]
 ·rw [if_neg h1]
  by_cases h2:x.2.1=0
  ·rw [if_pos h2,nz_high h h1 h2]
  ·rw [if_neg h2,nz_mid rx nx (Or.inr ⟨h1,h2⟩)]
   have e:=normN_id rx nx
   unfold normN at e
   rw [if_neg (by rw [h];simp)] at e
   exact e.symm
theorem row_put0 {w0 w1 Z:World} {g:Nat} {cs:Array Value} {t:TypeId} (ra:w1.heap[g]?=some (.cells cs t (0,0))) (h0:Ok w0 w1) (hg:w0.heap.size<=g) (k:Nat) (x:Value) (hZ:Z=w1.setCell ⟨g,k,none⟩ x) :
  Hid (Ok w0 Z/\Z.heap[g]?=some (.cells (cs.setIfInBounds k x) t (0,0))/\(∀ (h:Nat) (o:Obj),h≠g->w1.heap[h]?=some o->Z.heap[h]?=some o)):=by
 subst hZ
 refine ⟨Ok.set h0 hg _,heap_setCell_same w1 g k _ t x ra,?_⟩
 intro h o h1 ho
 rw [heap_setCell_other _ _ _ _ h1]
 exact ho
set_option maxRecDepth 100000 in
theorem rnnz_any (a:Int×Int×Nat×Nat×Bool) (ha:RawN a) (w0 w:World) (hok:Ok w0 w) :
  Calls Tryz.prog 30 #[nv a] w fun e w'=>e=.returned (nv (nonZeroN a))/\Ok w0 w':=by
 have hle:=hok.le
 have HU:Hid _:=ha
 clear ha
 obtain ⟨x,hx⟩:∃ x,x=normN a:=⟨_,rfl⟩
 have HX:Hid _:=hx
 clear hx
 have HS:Hid (nonZeroN a=nzRaw x):=by unfold Hid nonZeroN;rw [HX.out]
 have RX:Hid (RawN x):=by rw [HX.out];exact normN_raw HU.out
 have NX:Hid (NormN x):=by rw [HX.out];exact normN_norm HU.out
 unfold nv
 go_enter Tryz.func30,Tryz.ntmps30
 go_wp2_with fail
 obtain ⟨W,hW⟩:∃ W,W=((w).alloc (.cells #[.bool a.2.2.2.2,.int .i64 a.1,.int .i64 a.2.1,.int .u64 (a.2.2.1:Int),.int .u64 (a.2.2.2.1:Int)] 29)).alloc (.cells #[.bool false,.int .i64 0,.int .i64 0,.int .u64 0,.int .u64 0] 29):=⟨_,rfl⟩
 have ra:Hid (W.heap[w.heap.size]?=some (.cells #[.bool a.2.2.2.2,.int .i64 a.1,.int .i64 a.2.1,.int .u64 (a.2.2.1:Int),.int .u64 (a.2.2.2.1:Int)] 29)):=by unfold Hid;rw [hW];exact jj
 have rz:Hid (W.heap[w.heap.size+1]?=some (.cells #[.bool false,.int .i64 0,.int .i64 0,.int .u64 0,.int .u64 0] 29)):=by unfold Hid;rw [hW];exact jj
 have HW:Hid (Ok w0 W):=by unfold Hid;rw [hW];exact (by repeat (first | exact hok | refine Ok.alloc ?_ _ | refine Ok.draws ?_ _ | fail))
 rw [<-hW]
 clear hW
 obtain ⟨gz,egz⟩:∃ g,g=w.heap.size+1:=⟨_,rfl⟩
 rw [<-egz] at rz ⊢
 obtain ⟨ga,ega⟩:∃ g,g=w.heap.size:=⟨_,rfl⟩
 rw [<-ega] at ra ⊢
 have lga:w0.heap.size<=ga:=by omega
 have ngagz:¬ga=gz:=by omega
 have lgz:w0.heap.size<=gz:=by omega
 have ngzga:¬gz=ga:=by omega
 clear ega egz
 refine (rnorm_any a HU.out W _ (by repeat (first | exact Ok.refl _ | refine Ok.alloc ?_ _ | refine Ok.draws ?_ _ | fail))).mono ?_
 rintro e w1 ⟨rfl,hb⟩
 replace ra:Hid _:=Ok.row' hb ra.out
 replace rz:Hid _:=Ok.row' hb rz.out
 have Hw1:Hid (Ok w0 w1):=HW.out.step hb
 clear hb
 rw [<-HX.out]
 unfold nv
 obtain ⟨a0,a1,a2,a3,a4,a5,a6,a7,a8,a9⟩:=row5_facts ra.out
 obtain ⟨k0,k1,k2,k3,k4,k5,k6,k7,k8,k9⟩:=row5_facts rz.out
 go_upto_region 2 with (fail)
 obtain ⟨Z,hZ⟩:∃ Z,Z=(((((w1.setCell ⟨ga,0,none⟩ (.bool x.2.2.2.2)).setCell ⟨ga,1,none⟩ (.int .i64 x.1)).setCell ⟨ga,2,none⟩ (.int .i64 x.2.1)).setCell ⟨ga,3,none⟩ (.int .u64 (x.2.2.1:Int))).setCell ⟨ga,4,none⟩ (.int .u64 (x.2.2.2.1:Int))):=⟨_,rfl⟩
 obtain ⟨HZ,raz,keep⟩:=(rows_put1 ra.out Hw1.out (by omega) _ _ _ _ _ hZ).out
 replace HZ:Hid (Ok w0 Z):=HZ
 replace raz:Hid _:=raz
 replace rz:Hid _:=keep _ _ (by omega) rz.out
 rw [<-hZ]
 clear hZ keep ra
 clear a0 a1 a2 a3 a4 a5 a6 a7 a8 a9 k0 k1 k2 k3 k4 k5 k6 k7 k8 k9
 obtain ⟨a0,a1,a2,a3,a4,a5,a6,a7,a8,a9⟩:=row5_facts raz.out
 obtain ⟨k0,k1,k2,k3,k4,k5,k6,k7,k8,k9⟩:=row5_facts rz.out
 go_upto_region 3 with (fail)
 obtain ⟨Y,hY⟩:∃ W,W=Z.alloc (.cells #[.int .i64 x.1,.int .i64 x.2.1] 24):=⟨_,rfl⟩
 have ri:Hid (Y.heap[Z.heap.size]?=some (.cells #[.int .i64 x.1,.int .i64 x.2.1] 24)):=by unfold Hid;rw [hY];exact heap_new0 _ _
 have hO:Ok Z Y:=by rw [hY];exact (Ok.refl _).alloc _
 rw [<-hY]
 have q1:=lt_row raz.out
 have q2:=lt_row rz.out
 have q3:=HZ.out.le
 obtain ⟨gi,egi⟩:∃ g,g=Z.heap.size:=⟨_,rfl⟩
 rw [<-egi] at ri ⊢
 have l1:w0.heap.size<=gi:=by omega
 have e1:¬gi=ga:=by omega
 have e2:¬gi=gz:=by omega
 have e3:¬ga=gi:=by omega
 have e4:¬gz=gi:=by omega
 clear hY egi q1 q2 q3 a0 a1 a2 a3 a4 a5 a6 a7 a8 a9 k0 k1 k2 k3 k4 k5 k6 k7 k8 k9
 replace raz:Hid _:=Ok.row' hO raz.out
 replace rz:Hid _:=Ok.row' hO rz.out
 have HY:Hid (Ok w0 Y):=HZ.out.step hO
 clear hO HZ
 by_cases h1:x.1=0
 ·by_cases h2:x.2.1=0
  ·have d1:(x.1==0)=true:=by simpa using h1
   have d2:(x.2.1==0)=true:=by simpa using h2
   have HA:Hid (x.2.2.2.2=false->nzRaw x=makeN 1 (-1) x.2.2.1 x.2.2.2.1):=by unfold Hid;intro hxb;rw [nz_ref RX.out NX.out hxb,if_pos h1,if_pos h2]
   have HB:Hid (x.2.2.2.2=true->nzRaw x=x):=fun h=>nz_mid RX.out NX.out (Or.inl h)
   clear h1 h2
   obtain ⟨a0,a1,a2,a3,a4,a5,a6,a7,a8,a9⟩:=row5_facts raz.out
   obtain ⟨k0,k1,k2,k3,k4,k5,k6,k7,k8,k9⟩:=row5_facts rz.out
   obtain ⟨i0,i1,i2,i3⟩:=row_facts ri.out
   go_upto_region 5 with (fail)
   clear a0 a1 a2 a3 a4 a5 a6 a7 a8 a9 k0 k1 k2 k3 k4 k5 k6 k7 k8 k9 i0 i1 i2 i3
   obtain ⟨X1,hX1⟩:∃ Z,Z=Y.setCell ⟨gi,0,none⟩ (.int .i64 1):=⟨_,rfl⟩
   have hrp:=(row_put0 ri.out HY.out l1 0 _ hX1).out
   have HX1:Hid (Ok w0 X1):=hrp.1
   replace raz:Hid _:=hrp.2.2 _ _ e3 raz.out
   replace rz:Hid _:=hrp.2.2 _ _ e4 rz.out
   replace ri:Hid (X1.heap[gi]?=some (.cells #[.int .i64 1,.int .i64 x.2.1] 24)):=hrp.2.1
   rw [<-hX1]
   clear hX1 hrp HY
   obtain ⟨a0,a1,a2,a3,a4,a5,a6,a7,a8,a9⟩:=row5_facts raz.out
   obtain ⟨k0,k1,k2,k3,k4,k5,k6,k7,k8,k9⟩:=row5_facts rz.out
   obtain ⟨i0,i1,i2,i3⟩:=row_facts ri.out
   go_upto_region 7 with (fail)
   clear a0 a1 a2 a3 a4 a5 a6 a7 a8 a9 k0 k1 k2 k3 k4 k5 k6 k7 k8 k9 i0 i1 i2 i3
   obtain ⟨X2,hX2⟩:∃ Z,Z=X1.setCell ⟨gi,1,none⟩ (.int .i64 (-1)):=⟨_,rfl⟩
   have hrp:=(row_put0 ri.out HX1.out l1 1 _ hX2).out
   have HX2:Hid (Ok w0 X2):=hrp.1
   replace raz:Hid _:=hrp.2.2 _ _ e3 raz.out
   replace rz:Hid _:=hrp.2.2 _ _ e4 rz.out
   replace ri:Hid (X2.heap[gi]?=some (.cells #[.int .i64 1,.int .i64 (-1)] 24)):=hrp.2.1
   rw [<-hX2]
   clear hX2 hrp HX1
   obtain ⟨a0,a1,a2,a3,a4,a5,a6,a7,a8,a9⟩:=row5_facts raz.out
   obtain ⟨k0,k1,k2,k3,k4,k5,k6,k7,k8,k9⟩:=row5_facts rz.out
   obtain ⟨i0,i1,i2,i3⟩:=row_facts ri.out
   cases hxb:x.2.2.2.2
   ·rw [hxb] at a0
    have HC:Hid _:=HA.out hxb
    clear HA HB
    go_wp2_with fail
    refine (rmake_any 1 (-1) x.2.2.1 x.2.2.2.1 one_in mone_in RX.out.2.2.1 RX.out.2.2.2 X2 _ (by repeat (first | exact Ok.refl _ | refine Ok.alloc ?_ _ | refine Ok.draws ?_ _ | fail))).mono ?_
    rintro e z9 ⟨rfl,hb⟩
    have hr:Hid _:=Ok.row' hb rz.out
    obtain ⟨k0,k1,k2,k3,k4,k5,k6,k7,k8,k9⟩:=row5_facts hr.out
    rw [<-HC.out]
    unfold nv
    go_wp2_with fail
    (try simp only [Exit.inBlock, Exit.then]); refine bodyPost_ret (results_cell_row rfl _ _ (gz) 29 #[_, _, _, _, _] (0, 0) _ rfl (row_set5 hr.out _ _ _ _ _) Tryz.underlying29 rfl infoN) rfl ?_
    exact ⟨(by rw [HS.out]),Ok.set (Ok.set (Ok.set (Ok.set (Ok.set (HX2.out.step hb) (show w0.heap.size<=gz by omega) _) (show w0.heap.size<=gz by omega) _) (show w0.heap.size<=gz by omega) _) (show w0.heap.size<=gz by omega) _) (show w0.heap.size<=gz by omega) _⟩
   ·rw [hxb] at a0
    have HC:Hid _:=HB.out hxb
    have HD:Hid _:=hxb
    clear HA HB
    go_wp2_with fail
    have hr:Hid _:=rz
    (try simp only [Exit.inBlock, Exit.then]); refine bodyPost_ret (results_cell_row rfl _ _ (gz) 29 #[_, _, _, _, _] (0, 0) _ rfl (row_set5 hr.out _ _ _ _ _) Tryz.underlying29 rfl infoN) rfl ?_
    exact ⟨(by rw [HS.out,HC.out,HD.out]),Ok.set (Ok.set (Ok.set (Ok.set (Ok.set (HX2.out) (show w0.heap.size<=gz by omega) _) (show w0.heap.size<=gz by omega) _) (show w0.heap.size<=gz by omega) _) (show w0.heap.size<=gz by omega) _) (show w0.heap.size<=gz by omega) _⟩
  ·have d1:(x.1==0)=true:=by simpa using h1
   have d2:(x.2.1==0)=false:=by simpa using h2
   have HA:Hid (x.2.2.2.2=false->nzRaw x=makeN 1 x.2.1 x.2.2.1 x.2.2.2.1):=by unfold Hid;intro hxb;rw [nz_ref RX.out NX.out hxb,if_pos h1,if_neg h2]
   have HB:Hid (x.2.2.2.2=true->nzRaw x=x):=fun h=>nz_mid RX.out NX.out (Or.inl h)
   clear h1 h2
   obtain ⟨a0,a1,a2,a3,a4,a5,a6,a7,a8,a9⟩:=row5_facts raz.out
   obtain ⟨k0,k1,k2,k3,k4,k5,k6,k7,k8,k9⟩:=row5_facts rz.out
   obtain ⟨i0,i1,i2,i3⟩:=row_facts ri.out
   go_upto_region 5 with (fail)
   clear a0 a1 a2 a3 a4 a5 a6 a7 a8 a9 k0 k1 k2 k3 k4 k5 k6 k7 k8 k9 i0 i1 i2 i3
   obtain ⟨X1,hX1⟩:∃ Z,Z=Y.setCell ⟨gi,0,none⟩ (.int .i64 1):=⟨_,rfl⟩
   have hrp:=(row_put0 ri.out HY.out l1 0 _ hX1).out
   have HX1:Hid (Ok w0 X1):=hrp.1
   replace raz:Hid _:=hrp.2.2 _ _ e3 raz.out
   replace rz:Hid _:=hrp.2.2 _ _ e4 rz.out
   replace ri:Hid (X1.heap[gi]?=some (.cells #[.int .i64 1,.int .i64 x.2.1] 24)):=hrp.2.1
   rw [<-hX1]
   clear hX1 hrp HY
   obtain ⟨a0,a1,a2,a3,a4,a5,a6,a7,a8,a9⟩:=row5_facts raz.out
   obtain ⟨k0,k1,k2,k3,k4,k5,k6,k7,k8,k9⟩:=row5_facts rz.out
   obtain ⟨i0,i1,i2,i3⟩:=row_facts ri.out
   go_upto_region 7 with (fail)
   clear a0 a1 a2 a3 a4 a5 a6 a7 a8 a9 k0 k1 k2 k3 k4 k5 k6 k7 k8 k9 i0 i1 i2 i3
   obtain ⟨a0,a1,a2,a3,a4,a5,a6,a7,a8,a9⟩:=row5_facts raz.out
   obtain ⟨k0,k1,k2,k3,k4,k5,k6,k7,k8,k9⟩:=row5_facts rz.out
   obtain ⟨i0,i1,i2,i3⟩:=row_facts ri.out
   cases hxb:x.2.2.2.2
   ·rw [hxb] at a0
    have HC:Hid _:=HA.out hxb
    clear HA HB
    go_wp2_with fail
    refine (rmake_any 1 x.2.1 x.2.2.1 x.2.2.2.1 one_in RX.out.2.1 RX.out.2.2.1 RX.out.2.2.2 X1 _ (by repeat (first | exact Ok.refl _ | refine Ok.alloc ?_ _ | refine Ok.draws ?_ _ | fail))).mono ?_
    rintro e z9 ⟨rfl,hb⟩
    have hr:Hid _:=Ok.row' hb rz.out
    obtain ⟨k0,k1,k2,k3,k4,k5,k6,k7,k8,k9⟩:=row5_facts hr.out
    rw [<-HC.out]
    unfold nv
    go_wp2_with fail
    (try simp only [Exit.inBlock, Exit.then]); refine bodyPost_ret (results_cell_row rfl _ _ (gz) 29 #[_, _, _, _, _] (0, 0) _ rfl (row_set5 hr.out _ _ _ _ _) Tryz.underlying29 rfl infoN) rfl ?_
    exact ⟨(by rw [HS.out]),Ok.set (Ok.set (Ok.set (Ok.set (Ok.set (HX1.out.step hb) (show w0.heap.size<=gz by omega) _) (show w0.heap.size<=gz by omega) _) (show w0.heap.size<=gz by omega) _) (show w0.heap.size<=gz by omega) _) (show w0.heap.size<=gz by omega) _⟩
   ·rw [hxb] at a0
    have HC:Hid _:=HB.out hxb
    have HD:Hid _:=hxb
    clear HA HB
    go_wp2_with fail
    have hr:Hid _:=rz
    (try simp only [Exit.inBlock, Exit.then]); refine bodyPost_ret (results_cell_row rfl _ _ (gz) 29 #[_, _, _, _, _] (0, 0) _ rfl (row_set5 hr.out _ _ _ _ _) Tryz.underlying29 rfl infoN) rfl ?_
    exact ⟨(by rw [HS.out,HC.out,HD.out]),Ok.set (Ok.set (Ok.set (Ok.set (Ok.set (HX1.out) (show w0.heap.size<=gz by omega) _) (show w0.heap.size<=gz by omega) _) (show w0.heap.size<=gz by omega) _) (show w0.heap.size<=gz by omega) _) (show w0.heap.size<=gz by omega) _⟩
 ·by_cases h2:x.2.1=0
  ·have d1:(x.1==0)=false:=by simpa using h1
   have d2:(x.2.1==0)=true:=by simpa using h2
   have HA:Hid (x.2.2.2.2=false->nzRaw x=makeN x.1 (-1) x.2.2.1 x.2.2.2.1):=by unfold Hid;intro hxb;rw [nz_ref RX.out NX.out hxb,if_neg h1,if_pos h2]
   have HB:Hid (x.2.2.2.2=true->nzRaw x=x):=fun h=>nz_mid RX.out NX.out (Or.inl h)
   clear h1 h2
   obtain ⟨a0,a1,a2,a3,a4,a5,a6,a7,a8,a9⟩:=row5_facts raz.out
   obtain ⟨k0,k1,k2,k3,k4,k5,k6,k7,k8,k9⟩:=row5_facts rz.out
   obtain ⟨i0,i1,i2,i3⟩:=row_facts ri.out
   go_upto_region 5 with (fail)
   clear a0 a1 a2 a3 a4 a5 a6 a7 a8 a9 k0 k1 k2 k3 k4 k5 k6 k7 k8 k9 i0 i1 i2 i3
   obtain ⟨a0,a1,a2,a3,a4,a5,a6,a7,a8,a9⟩:=row5_facts raz.out
   obtain ⟨k0,k1,k2,k3,k4,k5,k6,k7,k8,k9⟩:=row5_facts rz.out
   obtain ⟨i0,i1,i2,i3⟩:=row_facts ri.out
   go_upto_region 7 with (fail)
   clear a0 a1 a2 a3 a4 a5 a6 a7 a8 a9 k0 k1 k2 k3 k4 k5 k6 k7 k8 k9 i0 i1 i2 i3
   obtain ⟨X2,hX2⟩:∃ Z,Z=Y.setCell ⟨gi,1,none⟩ (.int .i64 (-1)):=⟨_,rfl⟩
   have hrp:=(row_put0 ri.out HY.out l1 1 _ hX2).out
   have HX2:Hid (Ok w0 X2):=hrp.1
   replace raz:Hid _:=hrp.2.2 _ _ e3 raz.out
   replace rz:Hid _:=hrp.2.2 _ _ e4 rz.out
   replace ri:Hid (X2.heap[gi]?=some (.cells #[.int .i64 x.1,.int .i64 (-1)] 24)):=hrp.2.1
   rw [<-hX2]
   clear hX2 hrp HY
   obtain ⟨a0,a1,a2,a3,a4,a5,a6,a7,a8,a9⟩:=row5_facts raz.out
   obtain ⟨k0,k1,k2,k3,k4,k5,k6,k7,k8,k9⟩:=row5_facts rz.out
   obtain ⟨i0,i1,i2,i3⟩:=row_facts ri.out
   cases hxb:x.2.2.2.2
   ·rw [hxb] at a0
    have HC:Hid _:=HA.out hxb
    clear HA HB
    go_wp2_with fail
    refine (rmake_any x.1 (-1) x.2.2.1 x.2.2.2.1 RX.out.1 mone_in RX.out.2.2.1 RX.out.2.2.2 X2 _ (by repeat (first | exact Ok.refl _ | refine Ok.alloc ?_ _ | refine Ok.draws ?_ _ | fail))).mono ?_
    rintro e z9 ⟨rfl,hb⟩
    have hr:Hid _:=Ok.row' hb rz.out
    obtain ⟨k0,k1,k2,k3,k4,k5,k6,k7,k8,k9⟩:=row5_facts hr.out
    rw [<-HC.out]
    unfold nv
    go_wp2_with fail
    (try simp only [Exit.inBlock, Exit.then]); refine bodyPost_ret (results_cell_row rfl _ _ (gz) 29 #[_, _, _, _, _] (0, 0) _ rfl (row_set5 hr.out _ _ _ _ _) Tryz.underlying29 rfl infoN) rfl ?_
    exact ⟨(by rw [HS.out]),Ok.set (Ok.set (Ok.set (Ok.set (Ok.set (HX2.out.step hb) (show w0.heap.size<=gz by omega) _) (show w0.heap.size<=gz by omega) _) (show w0.heap.size<=gz by omega) _) (show w0.heap.size<=gz by omega) _) (show w0.heap.size<=gz by omega) _⟩
   ·rw [hxb] at a0
    have HC:Hid _:=HB.out hxb
    have HD:Hid _:=hxb
    clear HA HB
    go_wp2_with fail
    have hr:Hid _:=rz
    (try simp only [Exit.inBlock, Exit.then]); refine bodyPost_ret (results_cell_row rfl _ _ (gz) 29 #[_, _, _, _, _] (0, 0) _ rfl (row_set5 hr.out _ _ _ _ _) Tryz.underlying29 rfl infoN) rfl ?_
    exact ⟨(by rw [HS.out,HC.out,HD.out]),Ok.set (Ok.set (Ok.set (Ok.set (Ok.set (HX2.out) (show w0.heap.size<=gz by omega) _) (show w0.heap.size<=gz by omega) _) (show w0.heap.size<=gz by omega) _) (show w0.heap.size<=gz by omega) _) (show w0.heap.size<=gz by omega) _⟩
  ·have d1:(x.1==0)=false:=by simpa using h1
   have d2:(x.2.1==0)=false:=by simpa using h2
   have HA:Hid (x.2.2.2.2=false->nzRaw x=makeN x.1 x.2.1 x.2.2.1 x.2.2.2.1):=by unfold Hid;intro hxb;rw [nz_ref RX.out NX.out hxb,if_neg h1,if_neg h2]
   have HB:Hid (x.2.2.2.2=true->nzRaw x=x):=fun h=>nz_mid RX.out NX.out (Or.inl h)
   clear h1 h2
   obtain ⟨a0,a1,a2,a3,a4,a5,a6,a7,a8,a9⟩:=row5_facts raz.out
   obtain ⟨k0,k1,k2,k3,k4,k5,k6,k7,k8,k9⟩:=row5_facts rz.out
   obtain ⟨i0,i1,i2,i3⟩:=row_facts ri.out
   go_upto_region 5 with (fail)
   clear a0 a1 a2 a3 a4 a5 a6 a7 a8 a9 k0 k1 k2 k3 k4 k5 k6 k7 k8 k9 i0 i1 i2 i3
   obtain ⟨a0,a1,a2,a3,a4,a5,a6,a7,a8,a9⟩:=row5_facts raz.out
   obtain ⟨k0,k1,k2,k3,k4,k5,k6,k7,k8,k9⟩:=row5_facts rz.out
   obtain ⟨i0,i1,i2,i3⟩:=row_facts ri.out
   go_upto_region 7 with (fail)
   clear a0 a1 a2 a3 a4 a5 a6 a7 a8 a9 k0 k1 k2 k3 k4 k5 k6 k7 k8 k9 i0 i1 i2 i3
   obtain ⟨a0,a1,a2,a3,a4,a5,a6,a7,a8,a9⟩:=row5_facts raz.out
   obtain ⟨k0,k1,k2,k3,k4,k5,k6,k7,k8,k9⟩:=row5_facts rz.out
   obtain ⟨i0,i1,i2,i3⟩:=row_facts ri.out
   cases hxb:x.2.2.2.2
   ·rw [hxb] at a0
    have HC:Hid _:=HA.out hxb
    clear HA HB
    go_wp2_with fail
    refine (rmake_any x.1 x.2.1 x.2.2.1 x.2.2.2.1 RX.out.1 RX.out.2.1 RX.out.2.2.1 RX.out.2.2.2 Y _ (by repeat (first | exact Ok.refl _ | refine Ok.alloc ?_ _ | refine Ok.draws ?_ _ | fail))).mono ?_
    rintro e z9 ⟨rfl,hb⟩
    have hr:Hid _:=Ok.row' hb rz.out
    obtain ⟨k0,k1,k2,k3,k4,k5,k6,k7,k8,k9⟩:=row5_facts hr.out
    rw [<-HC.out]
    unfold nv
    go_wp2_with fail
    (try simp only [Exit.inBlock, Exit.then]); refine bodyPost_ret (results_cell_row rfl _ _ (gz) 29 #[_, _, _, _, _] (0, 0) _ rfl (row_set5 hr.out _ _ _ _ _) Tryz.underlying29 rfl infoN) rfl ?_
    exact ⟨(by rw [HS.out]),Ok.set (Ok.set (Ok.set (Ok.set (Ok.set (HY.out.step hb) (show w0.heap.size<=gz by omega) _) (show w0.heap.size<=gz by omega) _) (show w0.heap.size<=gz by omega) _) (show w0.heap.size<=gz by omega) _) (show w0.heap.size<=gz by omega) _⟩
   ·rw [hxb] at a0
    have HC:Hid _:=HB.out hxb
    have HD:Hid _:=hxb
    clear HA HB
    go_wp2_with fail
    have hr:Hid _:=rz
    (try simp only [Exit.inBlock, Exit.then]); refine bodyPost_ret (results_cell_row rfl _ _ (gz) 29 #[_, _, _, _, _] (0, 0) _ rfl (row_set5 hr.out _ _ _ _ _) Tryz.underlying29 rfl infoN) rfl ?_
    exact ⟨(by rw [HS.out,HC.out,HD.out]),Ok.set (Ok.set (Ok.set (Ok.set (Ok.set (HY.out) (show w0.heap.size<=gz by omega) _) (show w0.heap.size<=gz by omega) _) (show w0.heap.size<=gz by omega) _) (show w0.heap.size<=gz by omega) _) (show w0.heap.size<=gz by omega) _⟩
end
end Go.Proofs.YtpjpjhjjhoeijaaGreat
