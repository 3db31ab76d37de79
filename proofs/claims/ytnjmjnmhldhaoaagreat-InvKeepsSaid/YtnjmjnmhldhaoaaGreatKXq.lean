import Derived.Deep.Cut
import Derived.Deep.CutRange
import Derived.Test.YtnjmjnmhldhaoaaGreatKXo
set_option linter.all false
namespace Go.Proofs.YtnjmjnmhldhaoaaGreat
open Go.RowKit Go.Shelf
theorem tdivW {x y:Int} (hx:In64 x) (h0:y≠0):wrap64 (x.tdiv y)=if y = -1 then wrap64 (-x) else x.tdiv y:=by
 split
 ·rename_i h;subst h
  rw [Int.tdiv_neg,Int.tdiv_one]
 ·rename_i h
  refine wrap64_id ?_
  have hx':=hx
  unfold In64 at hx' ⊢
  by_cases h1:y=1
  ·subst h1;rw [Int.tdiv_one];exact hx'
  ·have e:(x.tdiv y).natAbs=x.natAbs/y.natAbs:=Int.natAbs_tdiv x y
   have l:x.natAbs/y.natAbs<=x.natAbs/2:=Nat.div_le_div_left (by omega) (by omega)
   omega
theorem done6 {x y:Int} (hx:In64 x) (h0:y≠0):doneV 6 x y=wrap64 (x.tdiv y):=by
 rw [tdivW hx h0]
 show (if y=0 then 0 else if y = -1 then wrap64 (-x) else x.tdiv y)=_
 rw [if_neg h0]
theorem doneB_ne {op y:Int} (h:op=6\/op=7):doneB op y = !(decide (y=0)):=by
 rcases h with rfl | rfl<;>rfl
set_option maxRecDepth 100000 in
set_option maxHeartbeats 40000000 in
theorem vresult_any (op x y:Int) (ho:Op6 op) (hx:In64 x) (hy:In64 y) (w0 w:World) (hok:Ok w0 w) :
  Calls Tryz.prog 9 #[.int .i64 op,.int .i64 x,.int .i64 y] w fun e w'=>e=.returned (.tuple #[.int .i64 (doneV op x y),.bool (doneB op y)])/\Ok w0 w':=by
 have HU:Hid (In64 x/\In64 y):=⟨hx,hy⟩
 clear hx hy
 rcases ho with rfl | rfl | rfl | rfl | rfl | rfl
 ·go_enter Tryz.func9,Tryz.ntmps9
  go_wp2_with fail
  refine (Srneg_any x _).mono ?_
  rintro e w1 ⟨rfl,rfl⟩
  go_wp2_with fail
  refine bodyPost_ret (results_tmp2 rfl _ _ _) rfl ?_
  exact ⟨rfl,hok⟩
 ·go_enter Tryz.func9,Tryz.ntmps9
  go_wp2_with fail
  refine (Sradd_any x y _).mono ?_
  rintro e w1 ⟨rfl,rfl⟩
  go_wp2_with fail
  refine bodyPost_ret (results_tmp2 rfl _ _ _) rfl ?_
  exact ⟨rfl,hok⟩
 ·go_enter Tryz.func9,Tryz.ntmps9
  go_wp2_with fail
  refine (Srsub_any x y _).mono ?_
  rintro e w1 ⟨rfl,rfl⟩
  go_wp2_with fail
  refine bodyPost_ret (results_tmp2 rfl _ _ _) rfl ?_
  exact ⟨rfl,hok⟩
 ·go_enter Tryz.func9,Tryz.ntmps9
  go_wp2_with fail
  refine (Srmul_any x y _).mono ?_
  rintro e w1 ⟨rfl,rfl⟩
  go_wp2_with fail
  refine bodyPost_ret (results_tmp2 rfl _ _ _) rfl ?_
  exact ⟨rfl,hok⟩
 ·by_cases h0:y=0
  ·subst h0
   go_enter Tryz.func9,Tryz.ntmps9
   go_wp2_with fail
   refine (rdiv_zero x 0 rfl _).mono ?_
   rintro e w1 ⟨rfl,rfl⟩
   go_wp2_with fail
   refine bodyPost_ret (results_tmp2 rfl _ _ _) rfl ?_
   exact ⟨rfl,hok⟩
  ·have H0:Hid (y≠0):=h0
   clear h0
   go_enter Tryz.func9,Tryz.ntmps9
   go_wp2_with fail
   refine (Srdiv_any x y HU.out.1 HU.out.2 H0.out _).mono ?_
   rintro e w1 ⟨rfl,rfl⟩
   go_wp2_with fail
   refine bodyPost_ret (results_tmp2 rfl _ _ _) rfl ?_
   exact ⟨by rw [done6 HU.out.1 H0.out,doneB_ne (Or.inl rfl),decide_eq_false H0.out];rfl,hok⟩
 ·by_cases h0:y=0
  ·subst h0
   go_enter Tryz.func9,Tryz.ntmps9
   go_wp2_with fail
   refine (rrem_zero x 0 rfl _).mono ?_
   rintro e w1 ⟨rfl,rfl⟩
   go_wp2_with fail
   refine bodyPost_ret (results_tmp2 rfl _ _ _) rfl ?_
   exact ⟨rfl,hok⟩
  ·have H0:Hid (y≠0):=h0
   clear h0
   go_enter Tryz.func9,Tryz.ntmps9
   go_wp2_with fail
   refine (Srrem_any x y HU.out.1 HU.out.2 H0.out _).mono ?_
   rintro e w1 ⟨rfl,rfl⟩
   go_wp2_with fail
   refine bodyPost_ret (results_tmp2 rfl _ _ _) rfl ?_
   exact ⟨by rw [done_rem H0.out,doneB_ne (Or.inr rfl),decide_eq_false H0.out];rfl,hok⟩
end Go.Proofs.YtnjmjnmhldhaoaaGreat
