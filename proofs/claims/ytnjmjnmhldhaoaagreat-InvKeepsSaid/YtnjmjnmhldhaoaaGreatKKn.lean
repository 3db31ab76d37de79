import Derived.Test.YtnjmjnmhldhaoaaGreatKKf
set_option maxHeartbeats 8000000
set_option linter.all false
namespace Go.Proofs.YtnjmjnmhldhaoaaGreat
open Go.RowKit
theorem field_R (a b:Value) (w:World):(Instr.field 27 (.agg #[a,b]) 1).run Tryz.prog w=.ok b w:=by kernel_rfl
attribute [local go_sem] field_R
theorem row1_cell {w:World} {g:Nat} {x:Value} {t:TypeId} (h:w.heap[g]?=some (.cells #[x] t (0,0))):w.cell? ⟨g,0,none⟩=some x:=(cell_of_row _ _ 0 _ _ _ h).trans (by simp)
theorem pahead_any (cM cR dM dR:Nat) (h1:U64 cM) (h2:U64 cR) (h3:U64 dM) (h4:U64 dR) (w0 w:World) (hok:Ok w0 w) :
  Calls Tryz.prog 117 #[cv cM cR,cv dM dR] w fun e w'=>e=.returned (cv (subC dM dR cM cR true).1 (subC dM dR cM cR true).2)/\Ok w0 w':=by
 have hle:=hok.le
 have HU:Hid _:=And.intro h1 (And.intro h2 (And.intro h3 h4))
 clear h1 h2 h3 h4
 unfold cv
 go_enter Tryz.func117,Tryz.ntmps117
 go_wp2_with fail
 refine (psub_any dM dR cM cR true HU.out.2.2.1 HU.out.2.2.2 HU.out.1 HU.out.2.1 _ _ (Ok.refl _)).mono ?_
 rintro e w' ⟨rfl,hb⟩
 have hr : Hid _ := Ok.row' (g := w.heap.size+2) (o := .cells #[.int .u64 0, .int .u64 0] 27) hb jj; obtain ⟨k0, k1, k2, k3⟩ := row_facts hr.out
 unfold cv
 go_wp2_with fail
 (try simp only [Exit.inBlock, Exit.then]); refine bodyPost_ret (results_cell_row rfl _ _ (w.heap.size+2) 27 #[_, _] (0, 0) _ rfl (row_set2 hr.out _ _) Tryz.underlying27 rfl infoCg) rfl ?_
 exact ⟨rfl,((Ok.step (by repeat (first | exact hok | refine Ok.alloc ?_ _ | refine Ok.draws ?_ _ | fail)) hb).set (show w0.heap.size ≤ w.heap.size+2 by omega) _).set (show w0.heap.size ≤ w.heap.size+2 by omega) _⟩
theorem pbehind_any (cM cR dM dR:Nat) (h1:U64 cM) (h2:U64 cR) (h3:U64 dM) (h4:U64 dR) (w0 w:World) (hok:Ok w0 w) :
  Calls Tryz.prog 121 #[cv cM cR,cv dM dR] w fun e w'=>e=.returned (cv (subC cM cR dM dR true).1 (subC cM cR dM dR true).2)/\Ok w0 w':=by
 have hle:=hok.le
 have HU:Hid _:=And.intro h1 (And.intro h2 (And.intro h3 h4))
 clear h1 h2 h3 h4
 unfold cv
 go_enter Tryz.func121,Tryz.ntmps121
 go_wp2_with fail
 refine (psub_any cM cR dM dR true HU.out.1 HU.out.2.1 HU.out.2.2.1 HU.out.2.2.2 _ _ (Ok.refl _)).mono ?_
 rintro e w' ⟨rfl,hb⟩
 have hr : Hid _ := Ok.row' (g := w.heap.size+2) (o := .cells #[.int .u64 0, .int .u64 0] 27) hb jj; obtain ⟨k0, k1, k2, k3⟩ := row_facts hr.out
 unfold cv
 go_wp2_with fail
 (try simp only [Exit.inBlock, Exit.then]); refine bodyPost_ret (results_cell_row rfl _ _ (w.heap.size+2) 27 #[_, _] (0, 0) _ rfl (row_set2 hr.out _ _) Tryz.underlying27 rfl infoCg) rfl ?_
 exact ⟨rfl,((Ok.step (by repeat (first | exact hok | refine Ok.alloc ?_ _ | refine Ok.draws ?_ _ | fail)) hb).set (show w0.heap.size ≤ w.heap.size+2 by omega) _).set (show w0.heap.size ≤ w.heap.size+2 by omega) _⟩
set_option maxRecDepth 100000 in
theorem pnext1_up (M R:Nat) (v:Int) (a b c:Nat) (h1:U64 M) (h2:U64 R) (hv:In64 v) (w0 w:World) (hok:Ok w0 w)
  (ra:w.heap[a]?=some (.cells #[.func (.func 117) #[] #[]] 118)) (rb:w.heap[b]?=some (.cells #[.int .i64 9223372036854775807] 2)) (rc:w.heap[c]?=some (.cells #[.func (.func 120) #[] #[]] 57)) :
  Calls Tryz.prog 171 #[cv M R,.int .i64 v,.pointer (some ⟨a,0,none⟩),.pointer (some ⟨b,0,none⟩),.pointer (some ⟨c,0,none⟩)] w fun e w'=>e=.returned (.tuple #[.int .i64 (upC M R v).1,.bool (upC M R v).2])/\Ok w0 w':=by
 have hle:=hok.le
 rw [up_way h1 h2 hv]
 have HE:Hid _:=end_up hv
 obtain ⟨B,hB⟩:∃ B,B=bitsN v:=⟨_,rfl⟩
 obtain ⟨B2,hB2⟩:∃ B,B=bitsN 9223372036854775807:=⟨_,rfl⟩
 rw [<-hB,<-hB2] at HE
 rw [<-hB]
 have HBU:Hid (U64 B/\U64 B2):=by rw [hB,hB2];exact ⟨bitsN_u64 _,bitsN_u64 _⟩
 have HB:Hid _:=And.intro hB hB2
 obtain ⟨m1,hm1⟩:∃ m,m=(subC M R 0 B true).1:=⟨_,rfl⟩
 obtain ⟨m2,hm2⟩:∃ m,m=(subC 0 B2 0 B true).1:=⟨_,rfl⟩
 obtain ⟨y,hy⟩:∃ m,m=(subC M R 0 B true).2:=⟨_,rfl⟩
 obtain ⟨z,hz⟩:∃ m,m=(subC 0 B2 0 B true).2:=⟨_,rfl⟩
 rw [<-hz] at HE
 rw [<-hy,<-HE.out]
 have HS:Hid _:=And.intro hm1 (And.intro hy (And.intro hm2 hz))
 have HU:Hid _:=And.intro h1 (And.intro h2 (And.intro hv (show U64 0 by unfold U64;omega)))
 clear hB hB2 hm1 hm2 hy hz h1 h2 hv
 unfold cv
 go_enter Tryz.func171,Tryz.ntmps171
 go_wp2_with fail
 have a0:=row1_cell ra;have b0:=row1_cell rb;have c0:=row1_cell rc
 have la:=lt_row ra;have lb:=lt_row rb;have lc:=lt_row rc
 have okX:Ok w (((w.alloc (.cells #[.int .u64 (M:Int),.int .u64 (R:Int)] 27)).alloc (.cells #[.int .u64 0,.int .u64 (IntKind.u64.wrap v)] 27)).alloc (.cells #[.int .u64 0,.int .u64 (B:Int)] 27)):=((Ok.refl w).alloc _).alloc _ |>.alloc _
 have a3:=Ok.cell okX (p:=⟨a,0,none⟩) la a0;have b3:=Ok.cell okX (p:=⟨b,0,none⟩) lb b0;have c3:=Ok.cell okX (p:=⟨c,0,none⟩) lc c0
 refine (pconst_ex v _).mono ?_
 rintro e w1 ⟨rfl,rfl⟩
 rw [<-HB.out.1]
 unfold cv
 go_wp2_with fail
 obtain ⟨W,hW⟩:∃ W,W=(((w.alloc (.cells #[.int .u64 (M:Int),.int .u64 (R:Int)] 27)).alloc (.cells #[.int .u64 0,.int .u64 (IntKind.u64.wrap v)] 27)).alloc (.cells #[.int .u64 0,.int .u64 (B:Int)] 27)):=⟨_,rfl⟩
 have rf:W.heap[w.heap.size+2]?=some (.cells #[.int .u64 0,.int .u64 (B:Int)] 27):=by rw [hW];exact jj
 have HW:Hid (Ok w0 W):=by rw [hW];exact (by repeat (first | exact hok | refine Ok.alloc ?_ _ | refine Ok.draws ?_ _ | fail))
 rw [<-hW] at okX a3 b3 c3 ⊢
 clear hW hok
 obtain ⟨f0,f1,_,_⟩:=row_facts rf
 have ks:=okX.le
 have ka:a<W.heap.size:=by omega
 have kb:b<W.heap.size:=by omega
 have kc:c<W.heap.size:=by omega
 have kf:=lt_row rf
 clear rf a0 b0 c0 la lb lc ks okX ra rb rc
 have bz:Ok W W:=Ok.refl _
 refine (pahead_any 0 B M R HU.out.2.2.2 HBU.out.1 HU.out.1 HU.out.2.1 W _ bz).mono ?_
 rintro e w' ⟨rfl,hb⟩
 rw [<-HS.out.1,<-HS.out.2.1]
 unfold cv
 have q1:=Ok.cell hb (p:=⟨a,0,none⟩) ka a3;have q2:=Ok.cell hb (p:=⟨b,0,none⟩) kb b3;have q3:=Ok.cell hb (p:=⟨c,0,none⟩) kc c3;have q4:=Ok.cell hb (p:=⟨w.heap.size+2,0,none⟩) kf f0;have q5:=Ok.cell hb (p:=⟨w.heap.size+2,1,none⟩) kf f1
 go_wp2_with fail
 by_cases hc:(z:Int)<y
 ·go_region_held3 (fun w'=>w'.cell? ⟨a,0,none⟩=some (.func (.func 117) #[] #[])/\w'.cell? ⟨b,0,none⟩=some (.int .i64 9223372036854775807)/\w'.cell? ⟨c,0,none⟩=some (.func (.func 120) #[] #[])/\w'.cell? ⟨w.heap.size+2,0,none⟩=some (.int .u64 0)/\w'.cell? ⟨w.heap.size+2,1,none⟩=some (.int .u64 (B:Int))) (go_keep)
   (first
   | (go_at_call 123;refine (pconst_any 9223372036854775807 W _ (by repeat (first | assumption | refine Ok.alloc ?_ _ | refine Below.drew ?_))).mono ?_;rintro e w' ⟨rfl,hb⟩;rw [<-HB.out.2];unfold cv;have q1:=Ok.cell hb (p:=⟨a,0,none⟩) ka a3;have q2:=Ok.cell hb (p:=⟨b,0,none⟩) kb b3;have q3:=Ok.cell hb (p:=⟨c,0,none⟩) kc c3;have q4:=Ok.cell hb (p:=⟨w.heap.size+2,0,none⟩) kf f0;have q5:=Ok.cell hb (p:=⟨w.heap.size+2,1,none⟩) kf f1)
   | (go_at_call 117;refine (pahead_any 0 B 0 B2 HU.out.2.2.2 HBU.out.1 HU.out.2.2.2 HBU.out.2 W _ (by repeat (first | assumption | refine Ok.alloc ?_ _ | refine Below.drew ?_))).mono ?_;rintro e w' ⟨rfl,hb⟩;rw [<-HS.out.2.2.1,<-HS.out.2.2.2];unfold cv;have q1:=Ok.cell hb (p:=⟨a,0,none⟩) ka a3;have q2:=Ok.cell hb (p:=⟨b,0,none⟩) kb b3;have q3:=Ok.cell hb (p:=⟨c,0,none⟩) kc c3;have q4:=Ok.cell hb (p:=⟨w.heap.size+2,0,none⟩) kf f0;have q5:=Ok.cell hb (p:=⟨w.heap.size+2,1,none⟩) kf f1)
   | fail)
  go_wp2_with fail
  (try simp only [Exit.inBlock,Exit.then])
  refine bodyPost_ret (results_tmp2 rfl _ _ _) rfl ?_
  exact ⟨rfl,HW.out.step hb⟩
 ·go_region_held3 (fun w'=>w'.cell? ⟨a,0,none⟩=some (.func (.func 117) #[] #[])/\w'.cell? ⟨b,0,none⟩=some (.int .i64 9223372036854775807)/\w'.cell? ⟨c,0,none⟩=some (.func (.func 120) #[] #[])/\w'.cell? ⟨w.heap.size+2,0,none⟩=some (.int .u64 0)/\w'.cell? ⟨w.heap.size+2,1,none⟩=some (.int .u64 (B:Int))) (go_keep)
   (first
   | (go_at_call 123;refine (pconst_any 9223372036854775807 W _ (by repeat (first | assumption | refine Ok.alloc ?_ _ | refine Below.drew ?_))).mono ?_;rintro e w' ⟨rfl,hb⟩;rw [<-HB.out.2];unfold cv;have q1:=Ok.cell hb (p:=⟨a,0,none⟩) ka a3;have q2:=Ok.cell hb (p:=⟨b,0,none⟩) kb b3;have q3:=Ok.cell hb (p:=⟨c,0,none⟩) kc c3;have q4:=Ok.cell hb (p:=⟨w.heap.size+2,0,none⟩) kf f0;have q5:=Ok.cell hb (p:=⟨w.heap.size+2,1,none⟩) kf f1)
   | (go_at_call 117;refine (pahead_any 0 B 0 B2 HU.out.2.2.2 HBU.out.1 HU.out.2.2.2 HBU.out.2 W _ (by repeat (first | assumption | refine Ok.alloc ?_ _ | refine Below.drew ?_))).mono ?_;rintro e w' ⟨rfl,hb⟩;rw [<-HS.out.2.2.1,<-HS.out.2.2.2];unfold cv;have q1:=Ok.cell hb (p:=⟨a,0,none⟩) ka a3;have q2:=Ok.cell hb (p:=⟨b,0,none⟩) kb b3;have q3:=Ok.cell hb (p:=⟨c,0,none⟩) kc c3;have q4:=Ok.cell hb (p:=⟨w.heap.size+2,0,none⟩) kf f0;have q5:=Ok.cell hb (p:=⟨w.heap.size+2,1,none⟩) kf f1)
   | fail)
  go_wp2_with fail
  refine (wadd_any v _ W _ hb).mono ?_
  rintro e u ⟨rfl,hb⟩
  go_wp2_with fail
  (try simp only [Exit.inBlock,Exit.then])
  refine bodyPost_ret (results_tmp2 rfl _ _ _) rfl ?_
  exact ⟨rfl,HW.out.step hb⟩
set_option maxRecDepth 100000 in
theorem pnext_up (w:World) :
  Calls Tryz.prog 119 #[.func (.func 117) #[] #[],.func (.func 120) #[] #[],.int .i64 9223372036854775807] w fun e w'=>e=.returned (.func (.func 171) #[] #[.pointer (some ⟨w.heap.size,0,none⟩),.pointer (some ⟨w.heap.size+1+1,0,none⟩),.pointer (some ⟨w.heap.size+1,0,none⟩)])/\w'=(((w.alloc (.cells #[.func (.func 117) #[] #[]] 118)).alloc (.cells #[.func (.func 120) #[] #[]] 57)).alloc (.cells #[.int .i64 9223372036854775807] 2)):=by
 go_enter Tryz.func119,Tryz.ntmps119
 have hsf:=fun a c w=>run_store Tryz.prog w a (.func (.func 117) #[] c) .plain rfl
 have hsg:=fun a c w=>run_store Tryz.prog w a (.func (.func 120) #[] c) .plain rfl
 go_wp2_with fail
 go_ret
 exact ⟨rfl,rfl⟩
theorem pnext_up_ok (w0 w:World) (n:Nat) (hn:n=w.heap.size) (hok:Ok w0 w) :
  Calls Tryz.prog 119 #[.func (.func 117) #[] #[],.func (.func 120) #[] #[],.int .i64 9223372036854775807] w fun e w'=>e=.returned (.func (.func 171) #[] #[.pointer (some ⟨n,0,none⟩),.pointer (some ⟨n+1+1,0,none⟩),.pointer (some ⟨n+1,0,none⟩)])/\Ok w0 w'/\w'.heap[n]?=some (.cells #[.func (.func 117) #[] #[]] 118)/\w'.heap[n+1]?=some (.cells #[.func (.func 120) #[] #[]] 57)/\w'.heap[n+1+1]?=some (.cells #[.int .i64 9223372036854775807] 2):=by
 refine (pnext_up w).mono ?_
 rintro e w' ⟨rfl,rfl⟩
 subst hn
 exact ⟨rfl,((hok.alloc _).alloc _).alloc _,jj,jj,jj⟩
set_option maxRecDepth 100000 in
theorem pnext1_down (M R:Nat) (v:Int) (a b c:Nat) (h1:U64 M) (h2:U64 R) (hv:In64 v) (w0 w:World) (hok:Ok w0 w)
  (ra:w.heap[a]?=some (.cells #[.func (.func 121) #[] #[]] 118)) (rb:w.heap[b]?=some (.cells #[.int .i64 (-9223372036854775808)] 2)) (rc:w.heap[c]?=some (.cells #[.func (.func 122) #[] #[]] 57)) :
  Calls Tryz.prog 171 #[cv M R,.int .i64 v,.pointer (some ⟨a,0,none⟩),.pointer (some ⟨b,0,none⟩),.pointer (some ⟨c,0,none⟩)] w fun e w'=>e=.returned (.tuple #[.int .i64 (downC M R v).1,.bool (downC M R v).2])/\Ok w0 w':=by
 have hle:=hok.le
 rw [down_way h1 h2 hv]
 have HE:Hid _:=end_down hv
 obtain ⟨B,hB⟩:∃ B,B=bitsN v:=⟨_,rfl⟩
 obtain ⟨B2,hB2⟩:∃ B,B=bitsN (-9223372036854775808):=⟨_,rfl⟩
 rw [<-hB,<-hB2] at HE
 rw [<-hB]
 have HBU:Hid (U64 B/\U64 B2):=by rw [hB,hB2];exact ⟨bitsN_u64 _,bitsN_u64 _⟩
 have HB:Hid _:=And.intro hB hB2
 obtain ⟨m1,hm1⟩:∃ m,m=(subC 0 B M R true).1:=⟨_,rfl⟩
 obtain ⟨m2,hm2⟩:∃ m,m=(subC 0 B 0 B2 true).1:=⟨_,rfl⟩
 obtain ⟨y,hy⟩:∃ m,m=(subC 0 B M R true).2:=⟨_,rfl⟩
 obtain ⟨z,hz⟩:∃ m,m=(subC 0 B 0 B2 true).2:=⟨_,rfl⟩
 rw [<-hz] at HE
 rw [<-hy,<-HE.out]
 have HS:Hid _:=And.intro hm1 (And.intro hy (And.intro hm2 hz))
 have HU:Hid _:=And.intro h1 (And.intro h2 (And.intro hv (show U64 0 by unfold U64;omega)))
 clear hB hB2 hm1 hm2 hy hz h1 h2 hv
 unfold cv
 go_enter Tryz.func171,Tryz.ntmps171
 go_wp2_with fail
 have a0:=row1_cell ra;have b0:=row1_cell rb;have c0:=row1_cell rc
 have la:=lt_row ra;have lb:=lt_row rb;have lc:=lt_row rc
 have okX:Ok w (((w.alloc (.cells #[.int .u64 (M:Int),.int .u64 (R:Int)] 27)).alloc (.cells #[.int .u64 0,.int .u64 (IntKind.u64.wrap v)] 27)).alloc (.cells #[.int .u64 0,.int .u64 (B:Int)] 27)):=((Ok.refl w).alloc _).alloc _ |>.alloc _
 have a3:=Ok.cell okX (p:=⟨a,0,none⟩) la a0;have b3:=Ok.cell okX (p:=⟨b,0,none⟩) lb b0;have c3:=Ok.cell okX (p:=⟨c,0,none⟩) lc c0
 refine (pconst_ex v _).mono ?_
 rintro e w1 ⟨rfl,rfl⟩
 rw [<-HB.out.1]
 unfold cv
 go_wp2_with fail
 obtain ⟨W,hW⟩:∃ W,W=(((w.alloc (.cells #[.int .u64 (M:Int),.int .u64 (R:Int)] 27)).alloc (.cells #[.int .u64 0,.int .u64 (IntKind.u64.wrap v)] 27)).alloc (.cells #[.int .u64 0,.int .u64 (B:Int)] 27)):=⟨_,rfl⟩
 have rf:W.heap[w.heap.size+2]?=some (.cells #[.int .u64 0,.int .u64 (B:Int)] 27):=by rw [hW];exact jj
 have HW:Hid (Ok w0 W):=by rw [hW];exact (by repeat (first | exact hok | refine Ok.alloc ?_ _ | refine Ok.draws ?_ _ | fail))
 rw [<-hW] at okX a3 b3 c3 ⊢
 clear hW hok
 obtain ⟨f0,f1,_,_⟩:=row_facts rf
 have ks:=okX.le
 have ka:a<W.heap.size:=by omega
 have kb:b<W.heap.size:=by omega
 have kc:c<W.heap.size:=by omega
 have kf:=lt_row rf
 clear rf a0 b0 c0 la lb lc ks okX ra rb rc
 have bz:Ok W W:=Ok.refl _
 refine (pbehind_any 0 B M R HU.out.2.2.2 HBU.out.1 HU.out.1 HU.out.2.1 W _ bz).mono ?_
 rintro e w' ⟨rfl,hb⟩
 rw [<-HS.out.1,<-HS.out.2.1]
 unfold cv
 have q1:=Ok.cell hb (p:=⟨a,0,none⟩) ka a3;have q2:=Ok.cell hb (p:=⟨b,0,none⟩) kb b3;have q3:=Ok.cell hb (p:=⟨c,0,none⟩) kc c3;have q4:=Ok.cell hb (p:=⟨w.heap.size+2,0,none⟩) kf f0;have q5:=Ok.cell hb (p:=⟨w.heap.size+2,1,none⟩) kf f1
 go_wp2_with fail
 by_cases hc:(z:Int)<y
 ·go_region_held3 (fun w'=>w'.cell? ⟨a,0,none⟩=some (.func (.func 121) #[] #[])/\w'.cell? ⟨b,0,none⟩=some (.int .i64 (-9223372036854775808))/\w'.cell? ⟨c,0,none⟩=some (.func (.func 122) #[] #[])/\w'.cell? ⟨w.heap.size+2,0,none⟩=some (.int .u64 0)/\w'.cell? ⟨w.heap.size+2,1,none⟩=some (.int .u64 (B:Int))) (go_keep)
   (first
   | (go_at_call 123;refine (pconst_any (-9223372036854775808) W _ (by repeat (first | assumption | refine Ok.alloc ?_ _ | refine Below.drew ?_))).mono ?_;rintro e w' ⟨rfl,hb⟩;rw [<-HB.out.2];unfold cv;have q1:=Ok.cell hb (p:=⟨a,0,none⟩) ka a3;have q2:=Ok.cell hb (p:=⟨b,0,none⟩) kb b3;have q3:=Ok.cell hb (p:=⟨c,0,none⟩) kc c3;have q4:=Ok.cell hb (p:=⟨w.heap.size+2,0,none⟩) kf f0;have q5:=Ok.cell hb (p:=⟨w.heap.size+2,1,none⟩) kf f1)
   | (go_at_call 121;refine (pbehind_any 0 B 0 B2 HU.out.2.2.2 HBU.out.1 HU.out.2.2.2 HBU.out.2 W _ (by repeat (first | assumption | refine Ok.alloc ?_ _ | refine Below.drew ?_))).mono ?_;rintro e w' ⟨rfl,hb⟩;rw [<-HS.out.2.2.1,<-HS.out.2.2.2];unfold cv;have q1:=Ok.cell hb (p:=⟨a,0,none⟩) ka a3;have q2:=Ok.cell hb (p:=⟨b,0,none⟩) kb b3;have q3:=Ok.cell hb (p:=⟨c,0,none⟩) kc c3;have q4:=Ok.cell hb (p:=⟨w.heap.size+2,0,none⟩) kf f0;have q5:=Ok.cell hb (p:=⟨w.heap.size+2,1,none⟩) kf f1)
   | fail)
  go_wp2_with fail
  (try simp only [Exit.inBlock,Exit.then])
  refine bodyPost_ret (results_tmp2 rfl _ _ _) rfl ?_
  exact ⟨rfl,HW.out.step hb⟩
 ·go_region_held3 (fun w'=>w'.cell? ⟨a,0,none⟩=some (.func (.func 121) #[] #[])/\w'.cell? ⟨b,0,none⟩=some (.int .i64 (-9223372036854775808))/\w'.cell? ⟨c,0,none⟩=some (.func (.func 122) #[] #[])/\w'.cell? ⟨w.heap.size+2,0,none⟩=some (.int .u64 0)/\w'.cell? ⟨w.heap.size+2,1,none⟩=some (.int .u64 (B:Int))) (go_keep)
   (first
   | (go_at_call 123;refine (pconst_any (-9223372036854775808) W _ (by repeat (first | assumption | refine Ok.alloc ?_ _ | refine Below.drew ?_))).mono ?_;rintro e w' ⟨rfl,hb⟩;rw [<-HB.out.2];unfold cv;have q1:=Ok.cell hb (p:=⟨a,0,none⟩) ka a3;have q2:=Ok.cell hb (p:=⟨b,0,none⟩) kb b3;have q3:=Ok.cell hb (p:=⟨c,0,none⟩) kc c3;have q4:=Ok.cell hb (p:=⟨w.heap.size+2,0,none⟩) kf f0;have q5:=Ok.cell hb (p:=⟨w.heap.size+2,1,none⟩) kf f1)
   | (go_at_call 121;refine (pbehind_any 0 B 0 B2 HU.out.2.2.2 HBU.out.1 HU.out.2.2.2 HBU.out.2 W _ (by repeat (first | assumption | refine Ok.alloc ?_ _ | refine Below.drew ?_))).mono ?_;rintro e w' ⟨rfl,hb⟩;rw [<-HS.out.2.2.1,<-HS.out.2.2.2];unfold cv;have q1:=Ok.cell hb (p:=⟨a,0,none⟩) ka a3;have q2:=Ok.cell hb (p:=⟨b,0,none⟩) kb b3;have q3:=Ok.cell hb (p:=⟨c,0,none⟩) kc c3;have q4:=Ok.cell hb (p:=⟨w.heap.size+2,0,none⟩) kf f0;have q5:=Ok.cell hb (p:=⟨w.heap.size+2,1,none⟩) kf f1)
   | fail)
  go_wp2_with fail
  refine (wsub_any v _ W _ hb).mono ?_
  rintro e u ⟨rfl,hb⟩
  go_wp2_with fail
  (try simp only [Exit.inBlock,Exit.then])
  refine bodyPost_ret (results_tmp2 rfl _ _ _) rfl ?_
  exact ⟨rfl,HW.out.step hb⟩
set_option maxRecDepth 100000 in
theorem pnext_down (w:World) :
  Calls Tryz.prog 119 #[.func (.func 121) #[] #[],.func (.func 122) #[] #[],.int .i64 (-9223372036854775808)] w fun e w'=>e=.returned (.func (.func 171) #[] #[.pointer (some ⟨w.heap.size,0,none⟩),.pointer (some ⟨w.heap.size+1+1,0,none⟩),.pointer (some ⟨w.heap.size+1,0,none⟩)])/\w'=(((w.alloc (.cells #[.func (.func 121) #[] #[]] 118)).alloc (.cells #[.func (.func 122) #[] #[]] 57)).alloc (.cells #[.int .i64 (-9223372036854775808)] 2)):=by
 go_enter Tryz.func119,Tryz.ntmps119
 have hsf:=fun a c w=>run_store Tryz.prog w a (.func (.func 121) #[] c) .plain rfl
 have hsg:=fun a c w=>run_store Tryz.prog w a (.func (.func 122) #[] c) .plain rfl
 go_wp2_with fail
 go_ret
 exact ⟨rfl,rfl⟩
theorem pnext_down_ok (w0 w:World) (n:Nat) (hn:n=w.heap.size) (hok:Ok w0 w) :
  Calls Tryz.prog 119 #[.func (.func 121) #[] #[],.func (.func 122) #[] #[],.int .i64 (-9223372036854775808)] w fun e w'=>e=.returned (.func (.func 171) #[] #[.pointer (some ⟨n,0,none⟩),.pointer (some ⟨n+1+1,0,none⟩),.pointer (some ⟨n+1,0,none⟩)])/\Ok w0 w'/\w'.heap[n]?=some (.cells #[.func (.func 121) #[] #[]] 118)/\w'.heap[n+1]?=some (.cells #[.func (.func 122) #[] #[]] 57)/\w'.heap[n+1+1]?=some (.cells #[.int .i64 (-9223372036854775808)] 2):=by
 refine (pnext_down w).mono ?_
 rintro e w' ⟨rfl,rfl⟩
 subst hn
 exact ⟨rfl,((hok.alloc _).alloc _).alloc _,jj,jj,jj⟩
end Go.Proofs.YtnjmjnmhldhaoaaGreat
namespace Go.Proofs.YtnjmjnmhldhaoaaGreat
open Go.RowKit
set_option maxRecDepth 100000 in
theorem pup_any (M R:Nat) (v:Int) (h1:U64 M) (h2:U64 R) (hv:In64 v) (w0 w:World) (hok:Ok w0 w) :
  Calls Tryz.prog 57 #[cv M R,.int .i64 v] w fun e w'=>e=.returned (.tuple #[.int .i64 (upC M R v).1,.bool (upC M R v).2])/\Ok w0 w':=by
 have hle:=hok.le
 have HU:Hid _:=And.intro h1 (And.intro h2 hv)
 clear h1 h2 hv
 obtain ⟨A,hA⟩:∃ z,z=(upC M R v).1:=⟨_,rfl⟩
 obtain ⟨Z,hZ⟩:∃ z,z=(upC M R v).2:=⟨_,rfl⟩
 rw [<-hA,<-hZ]
 have HA:Hid _:=And.intro hA hZ
 clear hA hZ
 unfold cv
 go_enter Tryz.func57,Tryz.ntmps57
 go_wp2_with fail
 obtain ⟨W,hW⟩:∃ W,W=(w.alloc (.cells #[.int .u64 (M:Int),.int .u64 (R:Int)] 27)):=⟨_,rfl⟩
 have ra0:W.heap[w.heap.size]?=some (.cells #[.int .u64 (M:Int),.int .u64 (R:Int)] 27):=by rw [hW];exact jj
 have HW:Hid (Ok w0 W):=by rw [hW];exact (by repeat (first | exact hok | refine Ok.alloc ?_ _ | refine Ok.draws ?_ _ | fail))
 rw [<-hW]
 clear hW hok
 have z0:=lt_row ra0
 have HR0:Hid _:=ra0
 obtain ⟨g00,g01,f00,f01⟩:=row_facts ra0
 clear ra0
 have bz:Ok W W:=Ok.refl _
 go_region_held3 (fun w'=>w'.cell? ⟨w.heap.size,0,none⟩=some (.int .u64 (M:Int))/\w'.cell? ⟨w.heap.size,1,none⟩=some (.int .u64 (R:Int))) (go_keep)
  (first
  | (go_at_call 119;refine (pnext_up_ok W W.drew W.heap.size rfl (by repeat (first | assumption | refine Ok.alloc ?_ _ | refine Below.drew ?_))).mono ?_;rintro e w' ⟨rfl,hb,s1,s2,s3⟩;have q00:=Ok.cell hb z0 g00;have q01:=Ok.cell hb z0 g01)
  | (go_at_call 171;refine (pnext1_up M R v (W.heap.size) (W.heap.size+1+1) (W.heap.size+1) HU.out.1 HU.out.2.1 HU.out.2.2 W _ hb s1 s3 s2).mono ?_;rintro e w' ⟨rfl,hb⟩;rw [<-HA.out.1,<-HA.out.2];have q00:=Ok.cell hb z0 g00;have q01:=Ok.cell hb z0 g01)
  | fail)
 go_wp2_with fail
 (try simp only [Exit.inBlock,Exit.then])
 refine bodyPost_ret (results_tmp2 rfl _ _ _) rfl ?_
 exact ⟨rfl,HW.out.step hb⟩
set_option maxRecDepth 100000 in
theorem pdown_any (M R:Nat) (v:Int) (h1:U64 M) (h2:U64 R) (hv:In64 v) (w0 w:World) (hok:Ok w0 w) :
  Calls Tryz.prog 58 #[cv M R,.int .i64 v] w fun e w'=>e=.returned (.tuple #[.int .i64 (downC M R v).1,.bool (downC M R v).2])/\Ok w0 w':=by
 have hle:=hok.le
 have HU:Hid _:=And.intro h1 (And.intro h2 hv)
 clear h1 h2 hv
 obtain ⟨A,hA⟩:∃ z,z=(downC M R v).1:=⟨_,rfl⟩
 obtain ⟨Z,hZ⟩:∃ z,z=(downC M R v).2:=⟨_,rfl⟩
 rw [<-hA,<-hZ]
 have HA:Hid _:=And.intro hA hZ
 clear hA hZ
 unfold cv
 go_enter Tryz.func58,Tryz.ntmps58
 go_wp2_with fail
 obtain ⟨W,hW⟩:∃ W,W=(w.alloc (.cells #[.int .u64 (M:Int),.int .u64 (R:Int)] 27)):=⟨_,rfl⟩
 have ra0:W.heap[w.heap.size]?=some (.cells #[.int .u64 (M:Int),.int .u64 (R:Int)] 27):=by rw [hW];exact jj
 have HW:Hid (Ok w0 W):=by rw [hW];exact (by repeat (first | exact hok | refine Ok.alloc ?_ _ | refine Ok.draws ?_ _ | fail))
 rw [<-hW]
 clear hW hok
 have z0:=lt_row ra0
 have HR0:Hid _:=ra0
 obtain ⟨g00,g01,f00,f01⟩:=row_facts ra0
 clear ra0
 have bz:Ok W W:=Ok.refl _
 go_region_held3 (fun w'=>w'.cell? ⟨w.heap.size,0,none⟩=some (.int .u64 (M:Int))/\w'.cell? ⟨w.heap.size,1,none⟩=some (.int .u64 (R:Int))) (go_keep)
  (first
  | (go_at_call 119;refine (pnext_down_ok W W.drew W.heap.size rfl (by repeat (first | assumption | refine Ok.alloc ?_ _ | refine Below.drew ?_))).mono ?_;rintro e w' ⟨rfl,hb,s1,s2,s3⟩;have q00:=Ok.cell hb z0 g00;have q01:=Ok.cell hb z0 g01)
  | (go_at_call 171;refine (pnext1_down M R v (W.heap.size) (W.heap.size+1+1) (W.heap.size+1) HU.out.1 HU.out.2.1 HU.out.2.2 W _ hb s1 s3 s2).mono ?_;rintro e w' ⟨rfl,hb⟩;rw [<-HA.out.1,<-HA.out.2];have q00:=Ok.cell hb z0 g00;have q01:=Ok.cell hb z0 g01)
  | fail)
 go_wp2_with fail
 (try simp only [Exit.inBlock,Exit.then])
 refine bodyPost_ret (results_tmp2 rfl _ _ _) rfl ?_
 exact ⟨rfl,HW.out.step hb⟩
end Go.Proofs.YtnjmjnmhldhaoaaGreat
