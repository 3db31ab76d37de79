import Derived.Test.YtpjpjhjjhoeijaaGreatKIadd
set_option maxHeartbeats 8000000
set_option linter.all false
namespace Go.Proofs.YtpjpjhjjhoeijaaGreat
open Go.RowKit
theorem wp_cut {P:Program} {c:Code} {Q:Exit->Act->World->Prop} {a:Act} {w:World} (R:Act->World->Prop) (h1:c.wp P (fun e a' w'=>e=.normal/\R a' w') a w) (h2:∀ a' w',R a' w'->Q .normal a' w'):c.wp P Q a w :=
 Code.wp_mono (fun e a w h=>by obtain ⟨rfl,h⟩:=h;exact h2 _ _ h) h1
theorem okA0 {W w':World} (h:Ok W.drew w'):Ok W w':=Ok.step (Below.drew (Ok.refl W)) h
theorem okA1 {W w':World} {o:Obj} (h:Ok (W.alloc o).drew w'):Ok W w'/\w'.heap[W.heap.size]?=some o :=
 ⟨Ok.step (Below.drew ((Ok.refl W).alloc _)) h,Ok.row' h (show (W.alloc o).heap[W.heap.size]?=some o from heap_new0 _ _)⟩
theorem okA2 {W w':World} {o p:Obj} (h:Ok ((W.alloc o).alloc p).drew w'):Ok W w'/\w'.heap[W.heap.size]?=some o/\w'.heap[W.heap.size+1]?=some p :=
 ⟨Ok.step (Below.drew (((Ok.refl W).alloc _).alloc _)) h,Ok.row' h (show ((W.alloc o).alloc p).heap[W.heap.size]?=some o from jj),Ok.row' h (show ((W.alloc o).alloc p).heap[W.heap.size+1]?=some p from jj)⟩
theorem okB1 {W w':World} {o:Obj} (h:Ok (W.alloc o) w'):Ok W w'/\w'.heap[W.heap.size]?=some o :=
 ⟨Ok.step ((Ok.refl W).alloc _) h,Ok.row' h (heap_new0 _ _)⟩
theorem okB2 {W w':World} {o p:Obj} (h:Ok ((W.alloc o).alloc p) w'):Ok W w'/\w'.heap[W.heap.size]?=some o/\w'.heap[W.heap.size+1]?=some p :=
 ⟨Ok.step (((Ok.refl W).alloc _).alloc _) h,Ok.row' h jj,Ok.row' h jj⟩
def Two (W w1:World) (gl gh:Nat) (o p:Obj):Prop:=Ok W w1/\w1.heap[gl]?=some o/\w1.heap[gh]?=some p/\gl≠gh/\W.heap.size<=gl/\W.heap.size<=gh
theorem two_a {W w2:World} {o p:Obj} (h:Ok W w2):Two W ((w2.alloc o).alloc p) w2.heap.size (w2.heap.size+1) o p :=
 ⟨(h.alloc _).alloc _,jj,jj,by omega,h.le,by have:=h.le;omega⟩
theorem two_b {W w2:World} {o p:Obj} (h:Ok W w2):Two W ((w2.alloc o).alloc p) (w2.heap.size+1) w2.heap.size p o :=
 ⟨(h.alloc _).alloc _,jj,jj,by omega,by have:=h.le;omega,h.le⟩
theorem two_c {W w2:World} {g:Nat} {u v x y:Value} {t:TypeId} {p:Obj} (h:Ok W w2) (hg:w2.heap[g]?=some (.cells #[u,v] t (0,0))) (hW:W.heap.size<=g) :
  Two W (((w2.setCell ⟨g,0,none⟩ x).setCell ⟨g,1,none⟩ y).alloc p) g w2.heap.size (.cells #[x,y] t (0,0)) p:=by
 have hl:=lt_row hg
 refine ⟨((h.set hW _).set hW _).alloc _,heap_past _ _ _ (by simpa using hl) (row_set2 hg _ _),heap_at _ _ _ (by simp),by omega,hW,h.le⟩
theorem two_d {W w2:World} {g:Nat} {u v x y:Value} {t:TypeId} {p:Obj} (h:Ok W w2) (hg:w2.heap[g]?=some (.cells #[u,v] t (0,0))) (hW:W.heap.size<=g) :
  Two W (((w2.setCell ⟨g,0,none⟩ x).setCell ⟨g,1,none⟩ y).alloc p) w2.heap.size g p (.cells #[x,y] t (0,0)):=by
 have hl:=lt_row hg
 refine ⟨((h.set hW _).set hW _).alloc _,heap_at _ _ _ (by simp),heap_past _ _ _ (by simpa using hl) (row_set2 hg _ _),by omega,h.le,hW⟩
theorem two_e {W w2:World} {g k:Nat} {u v x y u' v' x' y':Value} {t t':TypeId} (h:Ok W w2) (hg:w2.heap[g]?=some (.cells #[u,v] t (0,0))) (hk:w2.heap[k]?=some (.cells #[u',v'] t' (0,0))) (hne:g≠k) (hW:W.heap.size<=g) (hW':W.heap.size<=k) :
  Two W ((((w2.setCell ⟨g,0,none⟩ x).setCell ⟨g,1,none⟩ y).setCell ⟨k,0,none⟩ x').setCell ⟨k,1,none⟩ y') g k (.cells #[x,y] t (0,0)) (.cells #[x',y'] t' (0,0)):=by
 refine ⟨(((h.set hW _).set hW _).set hW' _).set hW' _,?_,row_set2 (u:=u') (v:=v') ?_ _ _,hne,hW,hW'⟩
 ·rw [heap_setCell_other _ _ _ _ (by simpa using hne),heap_setCell_other _ _ _ _ (by simpa using hne)];exact row_set2 hg _ _
 ·rw [heap_setCell_other _ _ _ _ (by simpa using hne.symm),heap_setCell_other _ _ _ _ (by simpa using hne.symm)];exact hk
def mP (al ah bl bh:Int):Nat->Int
 | 0=>al*bh
 | 1=>ah*bl
 | _=>ah*bh
def mL (al ah bl bh:Int):Nat->Int
 | 0=>al*bl
 | k+1=>min (mL al ah bl bh k) (mP al ah bl bh k)
def mH (al ah bl bh:Int):Nat->Int
 | 0=>al*bl
 | k+1=>max (mH al ah bl bh k) (mP al ah bl bh k)
def MulInv (al ah bl bh:Int) (w1:World) (gl gh ga:Nat) (wr:World) (L H:Int):Prop :=
 Ok w1 wr/\wr.heap[gl]?=some (rowW L)/\wr.heap[gh]?=some (rowW H)/\wr.heap[ga]?=some (.cells #[.int .i64 (hiW (al*bh)),.int .u64 (loW (al*bh)),.int .i64 (hiW (ah*bl)),.int .u64 (loW (ah*bl)),.int .i64 (hiW (ah*bh)),.int .u64 (loW (ah*bh))] 100)
theorem mul_cells {al ah bl bh:Int} {w1 wr:World} {gl gh ga:Nat} {L H:Int} (h:MulInv al ah bl bh w1 gl gh ga wr L H) (k:Nat) (hk:k<3):wr.cell? ⟨ga,k*2,none⟩=some (.int .i64 (hiW (mP al ah bl bh k)))/\wr.cell? ⟨ga,k*2+1,none⟩=some (.int .u64 (loW (mP al ah bl bh k))):=by
 obtain ⟨_,_,_,h4⟩:=h
 rw [cell_of_row _ _ _ _ _ _ h4,cell_of_row _ _ _ _ _ _ h4]
 match k,hk with
 | 0,_=>exact ⟨rfl,rfl⟩
 | 1,_=>exact ⟨rfl,rfl⟩
 | 2,_=>exact ⟨rfl,rfl⟩
theorem wless_ex (a b:Int) (w:World) :
  Calls Tryz.prog 116 #[.agg #[.int .i64 (hiW a),.int .u64 (loW a)],.agg #[.int .i64 (hiW b),.int .u64 (loW b)]] w fun e w'=>e=.returned (.bool (decide (a<b)))/\w'=(w.alloc (.cells #[.int .i64 (hiW a),.int .u64 (loW a)] 100)).alloc (.cells #[.int .i64 (hiW b),.int .u64 (loW b)] 100):=by
 go_enter Tryz.func116,Tryz.ntmps116
 go_wp2
 all_goals go_ret
 all_goals refine ⟨retb ?_,by first | rfl | simp only [*]⟩
 all_goals (try unfold hiW at *)
 all_goals (try unfold loW at *)
 all_goals first
  | (rw [eq_comm,decide_eq_true_iff];omega)
  | (refine decide_eq_decide.2 ?_;omega)
  | (rw [eq_comm,decide_eq_false_iff_not];omega)
theorem MulInv.alloc {al ah bl bh:Int} {w1 wr:World} {gl gh ga:Nat} {L H:Int} (h:MulInv al ah bl bh w1 gl gh ga wr L H) (o:Obj):MulInv al ah bl bh w1 gl gh ga (wr.alloc o) L H :=
 ⟨h.1.alloc _,heap_past _ _ _ (lt_row h.2.1) h.2.1,heap_past _ _ _ (lt_row h.2.2.1) h.2.2.1,heap_past _ _ _ (lt_row h.2.2.2) h.2.2.2⟩
theorem MulInv.setL {al ah bl bh:Int} {w1 wr:World} {gl gh ga:Nat} {L H:Int} (h:MulInv al ah bl bh w1 gl gh ga wr L H) (h1:gl≠gh) (h2:gl<ga) (h3:w1.heap.size<=gl) (X:Int):MulInv al ah bl bh w1 gl gh ga ((wr.setCell ⟨gl,0,none⟩ (.int .i64 (hiW X))).setCell ⟨gl,1,none⟩ (.int .u64 (loW X))) X H:=by
 obtain ⟨a1,a2,a3,a4⟩:=h
 refine ⟨(a1.set h3 _).set h3 _,row_set2 a2 _ _,?_,?_⟩
 ·rw [heap_setCell_other _ _ _ _ (by simpa using h1.symm),heap_setCell_other _ _ _ _ (by simpa using h1.symm)];exact a3
 ·rw [heap_setCell_other _ _ _ _ (show ga≠gl by omega),heap_setCell_other _ _ _ _ (show ga≠gl by omega)];exact a4
theorem MulInv.setH {al ah bl bh:Int} {w1 wr:World} {gl gh ga:Nat} {L H:Int} (h:MulInv al ah bl bh w1 gl gh ga wr L H) (h1:gl≠gh) (h2:gh<ga) (h3:w1.heap.size<=gh) (X:Int):MulInv al ah bl bh w1 gl gh ga ((wr.setCell ⟨gh,0,none⟩ (.int .i64 (hiW X))).setCell ⟨gh,1,none⟩ (.int .u64 (loW X))) L X:=by
 obtain ⟨a1,a2,a3,a4⟩:=h
 refine ⟨(a1.set h3 _).set h3 _,?_,row_set2 a3 _ _,?_⟩
 ·rw [heap_setCell_other _ _ _ _ (by simpa using h1),heap_setCell_other _ _ _ _ (by simpa using h1)];exact a2
 ·rw [heap_setCell_other _ _ _ _ (show ga≠gh by omega),heap_setCell_other _ _ _ _ (show ga≠gh by omega)];exact a4
theorem mL_end (al ah bl bh:Int):mL al ah bl bh 3=mulLo al ah bl bh/\mH al ah bl bh 3=mulHi al ah bl bh:=by
 unfold mulLo mulHi;simp only [mL,mH,mP];omega
theorem rmul_c (al ah bl bh:Int) (w0 w:World) (hok:Ok w0 w) (ha1:In64 al) (ha2:In64 ah) (hb1:In64 bl) (hb2:In64 bh) (hc:al<=ah) (hc2:bl<=bh) :
  Calls Tryz.prog 39 #[.agg #[.int .i64 al,.int .i64 ah],.agg #[.int .i64 bl,.int .i64 bh]] w fun e w'=>e=.returned (.tuple #[.agg #[.int .i64 (mulI al ah bl bh).1,.int .i64 (mulI al ah bl bh).2.1],.bool (mulI al ah bl bh).2.2])/\Ok w0 w':=by
 have d:decide (ah<al)=false:=decide_eq_false (by omega)
 have d2:decide (bh<bl)=false:=decide_eq_false (by omega)
 go_enter Tryz.func39,Tryz.ntmps39
 go_wp2_with (first | (go_at_call 100;refine (rempty_ex _ _ _).mono ?_;rintro e w' ⟨rfl,rfl⟩))
 obtain ⟨W,hW⟩:∃ W,W=((((w.alloc (.cells #[.int .i64 al,.int .i64 ah] 24)).alloc (.cells #[.int .i64 bl,.int .i64 bh] 24)).alloc (.cells #[.int .i64 0,.int .i64 0] 24)).alloc (.cells #[.int .i64 al,.int .i64 ah] 24)).alloc (.cells #[.int .i64 bl,.int .i64 bh] 24):=⟨_,rfl⟩
 have ra:W.heap[w.heap.size]?=some (.cells #[.int .i64 al,.int .i64 ah] 24):=by rw [hW];exact jj
 have rb:W.heap[w.heap.size+1]?=some (.cells #[.int .i64 bl,.int .i64 bh] 24):=by rw [hW];exact jj
 have rr:W.heap[w.heap.size+2]?=some (.cells #[.int .i64 0,.int .i64 0] 24):=by rw [hW];exact jj
 have hokW:Ok w0 W:=by rw [hW];exact (by repeat (first | exact hok | refine Ok.alloc ?_ _ | refine Ok.draws ?_ _ | fail))
 have hsz:w.heap.size+3<=W.heap.size:=by rw [hW];simp
 have hw0:=hok.le
 rw [<-hW]
 clear hW
 obtain ⟨c0,c1,_,_⟩:=row_facts ra
 obtain ⟨c2,c3,_,_⟩:=row_facts rb
 have g0:w.heap.size<W.heap.size:=by omega
 have g1:w.heap.size+1<W.heap.size:=by omega
 have HRR:Hid _:=rr
 clear ra rb rr
 have hb0:Ok W W:=Ok.refl _
 have ne0:¬w.heap.size=w.heap.size+1+1:=by omega
 have ne1:¬w.heap.size+1+1=w.heap.size:=by omega
 have hb00:Ok W W.drew:=Below.drew (Below.refl _ _)
 have hn0:¬w.heap.size=W.heap.size:=by omega
 have hn1:¬w.heap.size+1=W.heap.size:=by omega
 have hn2:¬w.heap.size=W.heap.size+1:=by omega
 have hn3:¬w.heap.size+1=W.heap.size+1:=by omega
 have hm0:¬W.heap.size=w.heap.size:=by omega
 have hm1:¬W.heap.size=w.heap.size+1:=by omega
 have hm2:¬W.heap.size+1=w.heap.size:=by omega
 have hm3:¬W.heap.size+1=w.heap.size+1:=by omega
 have htok:Hid True:=trivial
 refine wp_cut (fun a1 w1=>∃ gl gh,a1=⟨#[.agg #[.int .i64 al,.int .i64 ah],.agg #[.int .i64 bl,.int .i64 bh],.pointer (some ⟨w.heap.size,0,none⟩),.pointer (some ⟨w.heap.size+1,0,none⟩),.pointer (some ⟨w.heap.size+1+1,0,none⟩),.bool false,.pointer (some ⟨gl,0,none⟩),.pointer (some ⟨gh,0,none⟩),undef,undef,.agg #[.int .i64 al,.int .i64 ah],.bool false,.bool false,.agg #[.int .i64 bl,.int .i64 bh],.bool false,.bool false,undef,.pointer (some ⟨w.heap.size,0,none⟩),.int .i64 al,.pointer (some ⟨w.heap.size+1,0,none⟩),.int .i64 bl,.agg #[.int .i64 (hiW (al*bl)),.int .u64 (loW (al*bl))],.pointer (some ⟨w.heap.size,0,none⟩),.int .i64 al,.pointer (some ⟨w.heap.size+1,0,none⟩),.int .i64 bl,.agg #[.int .i64 (hiW (al*bl)),.int .u64 (loW (al*bl))],undef,undef,undef,undef,undef,undef,undef,undef,undef,undef,undef,undef,undef,undef,undef,undef,undef,undef,undef,undef,undef,undef,undef,undef,undef,undef,undef,undef,undef,undef,undef,undef,undef,undef,undef,undef,undef,undef,undef,undef,undef,undef,undef,undef,undef,undef,undef,undef,undef,undef,undef,undef,undef,undef,undef,undef,undef,undef,undef,undef,undef,undef,undef],[]⟩/\Two W w1 gl gh (rowW (al*bl)) (rowW (al*bl))) ?_ ?_
 ·go_region_held3 (fun w'=>w'.cell? ⟨w.heap.size,0,none⟩=some (.int .i64 al)/\w'.cell? ⟨w.heap.size,1,none⟩=some (.int .i64 ah)/\w'.cell? ⟨w.heap.size+1,0,none⟩=some (.int .i64 bl)/\w'.cell? ⟨w.heap.size+1,1,none⟩=some (.int .i64 bh)) (go_keep)
   (first
   | (go_at_call 115;clear htok;refine (rtimes_any _ _ _ _ (Ok.refl _) (by assumption) (by assumption)).mono ?_;rintro e w' ⟨rfl,hb⟩;(first | (have hq:=okA2 hb;obtain ⟨hbW,hrA,hrB⟩:=hq;obtain ⟨x0,x1,x2,x3⟩:=row_facts hrA;have x4:=lt_row hrA;obtain ⟨y0,y1,y2,y3⟩:=row_facts hrB;have y4:=lt_row hrB;have HRA:Hid _:=hrA;have HRB:Hid _:=hrB;clear hrA hrB) | (have hq:=okA1 hb;obtain ⟨hbW,hrA⟩:=hq;obtain ⟨x0,x1,x2,x3⟩:=row_facts hrA;have x4:=lt_row hrA;have HRA:Hid _:=hrA;clear hrA) | (have hbW:=okA0 hb));have d0:=Ok.cell hbW g0 c0;have d1:=Ok.cell hbW g0 c1;have d2:=Ok.cell hbW g1 c2;have d3:=Ok.cell hbW g1 c3;have hz:=Ok.le hbW;have hz0:w.heap.size<w'.heap.size:=(by omega);have hz1:w.heap.size+1<w'.heap.size:=(by omega);have hx0:¬w.heap.size=w'.heap.size:=(by omega);have hy0:¬w'.heap.size=w.heap.size:=(by omega);have hy1:¬w'.heap.size=w.heap.size+1:=(by omega);have hy2:¬w'.heap.size+1=w.heap.size:=(by omega);have hy3:¬w'.heap.size+1=w.heap.size+1:=(by omega);have hx1:¬w.heap.size+1=w'.heap.size:=(by omega);have hx2:¬w.heap.size=w'.heap.size+1:=(by omega);have hx3:¬w.heap.size+1=w'.heap.size+1:=(by omega))
   | (go_at_call 115;refine (rtimes_any _ _ _ _ (Ok.refl _) (by assumption) (by assumption)).mono ?_;rintro e w2 ⟨rfl,hb⟩;(first | (have hq:=okB2 hb;obtain ⟨hb12,hrC,hrD⟩:=hq;obtain ⟨z0,z1,z2,z3⟩:=row_facts hrC;have z4:=lt_row hrC;obtain ⟨u0,u1,u2,u3⟩:=row_facts hrD;have u4:=lt_row hrD;have HRC:Hid _:=hrC;have HRD:Hid _:=hrD;clear hrC hrD) | (have hq:=okB1 hb;obtain ⟨hb12,hrC⟩:=hq;obtain ⟨z0,z1,z2,z3⟩:=row_facts hrC;have z4:=lt_row hrC;have HRC:Hid _:=hrC;clear hrC) | (have hb12:Ok w' w2:=hb));have hbW2:=Ok.step hbW hb12;have hl12:=Ok.le hb12;(try (have hrA:=Ok.row' hb12 HRA.out;obtain ⟨x'0,x'1,x'2,x'3⟩:=row_facts hrA;have x'4:=lt_row hrA;have HA2:Hid _:=hrA;clear hrA));(try (have hrB:=Ok.row' hb12 HRB.out;obtain ⟨y'0,y'1,y'2,y'3⟩:=row_facts hrB;have y'4:=lt_row hrB;have HB2:Hid _:=hrB;clear hrB));have d0':=Ok.cell hbW2 g0 c0;have d1':=Ok.cell hbW2 g0 c1;have d2':=Ok.cell hbW2 g1 c2;have d3':=Ok.cell hbW2 g1 c3;have hz':=Ok.le hbW2;have hz0:w.heap.size<w2.heap.size:=(by omega);have hz1:w.heap.size+1<w2.heap.size:=(by omega);have hx0:¬w.heap.size=w2.heap.size:=(by omega);have hy0:¬w2.heap.size=w.heap.size:=(by omega);have hy1:¬w2.heap.size=w.heap.size+1:=(by omega);have hy2:¬w2.heap.size+1=w.heap.size:=(by omega);have hy3:¬w2.heap.size+1=w.heap.size+1:=(by omega);have hx1:¬w.heap.size+1=w2.heap.size:=(by omega);have hx2:¬w.heap.size=w2.heap.size+1:=(by omega);have hx3:¬w.heap.size+1=w2.heap.size+1:=(by omega))
   | fail)
  all_goals (refine ⟨rfl,_,_,rfl,?_⟩;unfold rowW;first | (with_reducible exact two_a hbW2) | (with_reducible exact two_b hbW2) | ((with_reducible refine two_c hbW2 HA2.out ?_)<;>omega) | ((with_reducible refine two_d hbW2 HA2.out ?_)<;>omega) | ((with_reducible refine two_c hbW2 HB2.out ?_)<;>omega) | ((with_reducible refine two_d hbW2 HB2.out ?_)<;>omega) | ((with_reducible refine two_c hbW2 HRC.out ?_)<;>omega) | ((with_reducible refine two_d hbW2 HRC.out ?_)<;>omega) | ((with_reducible refine two_c hbW2 HRD.out ?_)<;>omega) | ((with_reducible refine two_d hbW2 HRD.out ?_)<;>omega) | ((with_reducible refine two_e hbW2 HA2.out HB2.out ?_ ?_ ?_)<;>omega) | ((with_reducible refine two_e hbW2 HA2.out HRC.out ?_ ?_ ?_)<;>omega) | ((with_reducible refine two_e hbW2 HA2.out HRD.out ?_ ?_ ?_)<;>omega) | ((with_reducible refine two_e hbW2 HB2.out HA2.out ?_ ?_ ?_)<;>omega) | ((with_reducible refine two_e hbW2 HB2.out HRC.out ?_ ?_ ?_)<;>omega) | ((with_reducible refine two_e hbW2 HB2.out HRD.out ?_ ?_ ?_)<;>omega) | ((with_reducible refine two_e hbW2 HRC.out HA2.out ?_ ?_ ?_)<;>omega) | ((with_reducible refine two_e hbW2 HRC.out HB2.out ?_ ?_ ?_)<;>omega) | ((with_reducible refine two_e hbW2 HRC.out HRD.out ?_ ?_ ?_)<;>omega) | ((with_reducible refine two_e hbW2 HRD.out HA2.out ?_ ?_ ?_)<;>omega) | ((with_reducible refine two_e hbW2 HRD.out HB2.out ?_ ?_ ?_)<;>omega) | ((with_reducible refine two_e hbW2 HRD.out HRC.out ?_ ?_ ?_)<;>omega) | fail)
 ·rintro a1 w1 ⟨gl,gh,rfl,hT⟩
  have HT:Hid _:=hT
  clear hT
  have hbW:=HT.out.1
  have d0:=Ok.cell hbW g0 c0;have d1:=Ok.cell hbW g0 c1;have d2:=Ok.cell hbW g1 c2;have d3:=Ok.cell hbW g1 c3
  have g0':w.heap.size<w1.heap.size:=by have:=hbW.le;omega
  have g1':w.heap.size+1<w1.heap.size:=by have:=hbW.le;omega
  have hbx:Ok w1 w1:=Ok.refl _
  have hby:Ok w1 w1.drew:=Below.drew (Ok.refl _)
  have HC:Hid _:=And.intro c0 (And.intro c1 (And.intro c2 c3))
  clear c0 c1 c2 c3 hb0 hb00 hn0 hn1 hn2 hn3 hm0 hm1 hm2 hm3 htok
  simp only [Exit.then]
  go_wp2_with fail
  go_region_held3 (fun w'=>w'.cell? ⟨w.heap.size,0,none⟩=some (.int .i64 al)/\w'.cell? ⟨w.heap.size,1,none⟩=some (.int .i64 ah)/\w'.cell? ⟨w.heap.size+1,0,none⟩=some (.int .i64 bl)/\w'.cell? ⟨w.heap.size+1,1,none⟩=some (.int .i64 bh)) (go_keep)
   (first
   | (go_at_call 115;refine (rtimes_any _ _ w1 _ (by assumption) (by assumption) (by assumption)).mono ?_;rintro e w3 ⟨rfl,hb⟩;have e0:=Ok.cell hb g0' d0;have e1:=Ok.cell hb g0' d1;have e2:=Ok.cell hb g1' d2;have e3:=Ok.cell hb g1' d3)
   | fail)
  have hG:Hid (gl≠gh/\W.heap.size<=gl/\W.heap.size<=gh/\gl<w3.heap.size/\gh<w3.heap.size):=by
   obtain ⟨_,t1,t2,t3,t4,t5⟩:=HT.out
   have:=lt_row t1;have:=lt_row t2;have:=hb.le
   exact ⟨t3,t4,t5,by omega,by omega⟩
  obtain ⟨ga,hga⟩:∃ ga,ga=w3.heap.size:=⟨_,rfl⟩
  have hI:Hid (MulInv al ah bl bh W gl gh ga (w3.alloc (.cells #[.int .i64 (hiW (al*bh)),.int .u64 (loW (al*bh)),.int .i64 (hiW (ah*bl)),.int .u64 (loW (ah*bl)),.int .i64 (hiW (ah*bh)),.int .u64 (loW (ah*bh))] 100)) (al*bl) (al*bl)):=by
   obtain ⟨t0,t1,t2,t3,t4,t5⟩:=HT.out
   exact ⟨(t0.step hb).alloc _,heap_past _ _ _ hG.out.2.2.2.1 (Ok.row' hb t1),heap_past _ _ _ hG.out.2.2.2.2 (Ok.row' hb t2),by rw [hga];exact heap_new0 _ _⟩
  have hga2:Hid (gl<ga/\gh<ga):=by rw [hga];exact hG.out.2.2.2
  go_wp2_with fail
  rw [<-hga]
  clear d0 d1 d2 d3 e0 e1 e2 e3 hbx hby hbW hga
  go_loopw [44] (fun i wr=>∃ (k:Nat),k<=3/\i=.int .i64 k/\Hid (MulInv al ah bl bh W gl gh ga wr (mL al ah bl bh k) (mH al ah bl bh k))) (fun i _=>(3-intOf i).toNat)
  case atStart=>exact ⟨0,by omega,rfl,hI⟩
  case round =>
   obtain ⟨k,hk,rfl,hJ⟩:=hrel
   by_cases hk1:k<3
   ·have hk2:(k:Int)<3:=by omega
    obtain ⟨p0,p1⟩:=mul_cells hJ.out k hk1
    obtain ⟨hJ0,hJ1,hJ2,hJ3⟩:=hJ.out
    obtain ⟨l0,l1,l2,l3⟩:=row_facts hJ1
    obtain ⟨m0,m1,m2,m3⟩:=row_facts hJ2
    obtain ⟨X,hX⟩:∃ X,X=mP al ah bl bh k:=⟨_,rfl⟩
    obtain ⟨L,hL⟩:∃ L,L=mL al ah bl bh k:=⟨_,rfl⟩
    obtain ⟨M,hM⟩:∃ M,M=mH al ah bl bh k:=⟨_,rfl⟩
    rw [<-hX] at p0 p1
    rw [<-hL] at l0 l1
    rw [<-hM] at m0 m1
    have HV:Hid (MulInv al ah bl bh W gl gh ga wr L M):=by rw [hL,hM];exact hJ
    have HJ:Hid _:=And.intro hJ0 (And.intro hJ1 (And.intro hJ2 hJ3))
    have HX:Hid _:=And.intro hX (And.intro hL hM)
    have s0:=lt_row hJ1;have s1:=lt_row hJ2;have s2:=lt_row hJ3
    have s3:¬gl=wr.heap.size:=by omega
    have s4:¬gh=wr.heap.size:=by omega
    have zgl1:gl<wr.heap.size+1:=by omega
    have ygl1:¬gl=wr.heap.size+1:=by omega
    have xgl1:¬wr.heap.size+1=gl:=by omega
    have zgl2:gl<wr.heap.size+1+1:=by omega
    have ygl2:¬gl=wr.heap.size+1+1:=by omega
    have xgl2:¬wr.heap.size+1+1=gl:=by omega
    have zgl3:gl<wr.heap.size+1+1+1:=by omega
    have ygl3:¬gl=wr.heap.size+1+1+1:=by omega
    have xgl3:¬wr.heap.size+1+1+1=gl:=by omega
    have zgl4:gl<wr.heap.size+1+1+1+1:=by omega
    have ygl4:¬gl=wr.heap.size+1+1+1+1:=by omega
    have xgl4:¬wr.heap.size+1+1+1+1=gl:=by omega
    have zgl5:gl<wr.heap.size+1+1+1+1+1:=by omega
    have ygl5:¬gl=wr.heap.size+1+1+1+1+1:=by omega
    have xgl5:¬wr.heap.size+1+1+1+1+1=gl:=by omega
    have zgh1:gh<wr.heap.size+1:=by omega
    have ygh1:¬gh=wr.heap.size+1:=by omega
    have xgh1:¬wr.heap.size+1=gh:=by omega
    have zgh2:gh<wr.heap.size+1+1:=by omega
    have ygh2:¬gh=wr.heap.size+1+1:=by omega
    have xgh2:¬wr.heap.size+1+1=gh:=by omega
    have zgh3:gh<wr.heap.size+1+1+1:=by omega
    have ygh3:¬gh=wr.heap.size+1+1+1:=by omega
    have xgh3:¬wr.heap.size+1+1+1=gh:=by omega
    have zgh4:gh<wr.heap.size+1+1+1+1:=by omega
    have ygh4:¬gh=wr.heap.size+1+1+1+1:=by omega
    have xgh4:¬wr.heap.size+1+1+1+1=gh:=by omega
    have zgh5:gh<wr.heap.size+1+1+1+1+1:=by omega
    have ygh5:¬gh=wr.heap.size+1+1+1+1+1:=by omega
    have xgh5:¬wr.heap.size+1+1+1+1+1=gh:=by omega
    have q1:¬wr.heap.size=gl:=by omega
    have q2:¬wr.heap.size=gh:=by omega
    have q3:¬gl=gh:=hG.out.1
    have q4:¬gh=gl:=fun h=>hG.out.1 h.symm
    clear hJ0 hJ1 hJ2 hJ3 hX hL hM
    by_cases b1:X<L
    ·have e1:decide (X<L)=true:=decide_eq_true b1
     by_cases b2:M<X
     ·have e2:decide (M<X)=true:=decide_eq_true b2
      go_wp2_with (first | (go_at_call 116;refine (wless_ex _ _ _).mono ?_;rintro e w' ⟨rfl,rfl⟩) | fail)
      go_roundw
      case rel =>
       refine ⟨k+1,by omega,rfl,?_⟩
       have eL:mL al ah bl bh (k+1)=X:=by have:=HX.out;simp only [mL];omega
       have eH:mH al ah bl bh (k+1)=X:=by have:=HX.out;simp only [mH];omega
       rw [eL,eH]
       exact ((((((HV.out.setL hG.out.1 hga2.out.1 hG.out.2.1 X).setH hG.out.1 hga2.out.2 hG.out.2.2.1 X).alloc _).alloc _).alloc _).alloc _).alloc _
      case measure=>simp only [intOf];omega
     ·have e2:decide (M<X)=false:=decide_eq_false b2
      go_wp2_with (first | (go_at_call 116;refine (wless_ex _ _ _).mono ?_;rintro e w' ⟨rfl,rfl⟩) | fail)
      go_roundw
      case rel =>
       refine ⟨k+1,by omega,rfl,?_⟩
       have eL:mL al ah bl bh (k+1)=X:=by have:=HX.out;simp only [mL];omega
       have eH:mH al ah bl bh (k+1)=M:=by have:=HX.out;simp only [mH];omega
       rw [eL,eH]
       exact (((((HV.out.setL hG.out.1 hga2.out.1 hG.out.2.1 X).alloc _).alloc _).alloc _).alloc _).alloc _
      case measure=>simp only [intOf];omega
    ·have e1:decide (X<L)=false:=decide_eq_false b1
     by_cases b2:M<X
     ·have e2:decide (M<X)=true:=decide_eq_true b2
      go_wp2_with (first | (go_at_call 116;refine (wless_ex _ _ _).mono ?_;rintro e w' ⟨rfl,rfl⟩) | fail)
      go_roundw
      case rel =>
       refine ⟨k+1,by omega,rfl,?_⟩
       have eL:mL al ah bl bh (k+1)=L:=by have:=HX.out;simp only [mL];omega
       have eH:mH al ah bl bh (k+1)=X:=by have:=HX.out;simp only [mH];omega
       rw [eL,eH]
       exact (((((HV.out.setH hG.out.1 hga2.out.2 hG.out.2.2.1 X).alloc _).alloc _).alloc _).alloc _).alloc _
      case measure=>simp only [intOf];omega
     ·have e2:decide (M<X)=false:=decide_eq_false b2
      go_wp2_with (first | (go_at_call 116;refine (wless_ex _ _ _).mono ?_;rintro e w' ⟨rfl,rfl⟩) | fail)
      go_roundw
      case rel =>
       refine ⟨k+1,by omega,rfl,?_⟩
       have eL:mL al ah bl bh (k+1)=L:=by have:=HX.out;simp only [mL];omega
       have eH:mH al ah bl bh (k+1)=M:=by have:=HX.out;simp only [mH];omega
       rw [eL,eH]
       exact ((((HV.out.alloc _).alloc _).alloc _).alloc _).alloc _
      case measure=>simp only [intOf];omega
   ·have hk3:k=3:=by omega
    subst hk3
    obtain ⟨hJ0,hJ1,hJ2,hJ3⟩:=hJ.out
    rw [(mL_end al ah bl bh).1] at hJ1
    rw [(mL_end al ah bl bh).2] at hJ2
    obtain ⟨l0,l1,l2,l3⟩:=row_facts hJ1
    obtain ⟨m0,m1,m2,m3⟩:=row_facts hJ2
    have hRR:=Ok.row' hJ0 HRR.out
    obtain ⟨r0,r1,r2,r3⟩:=row_facts hRR
    have d0:=Ok.cell hJ0 g0 HC.out.1
    have d1:=Ok.cell hJ0 g0 HC.out.2.1
    have d2:=Ok.cell hJ0 g1 HC.out.2.2.1
    have d3:=Ok.cell hJ0 g1 HC.out.2.2.2
    have s0:=lt_row hJ1
    have s1:=lt_row hJ2
    have s2:=hJ0.le
    have zgl0:gl<wr.heap.size:=by omega
    have ygl0:¬gl=wr.heap.size:=by omega
    have xgl0:¬wr.heap.size=gl:=by omega
    have zgl1:gl<wr.heap.size+1:=by omega
    have ygl1:¬gl=wr.heap.size+1:=by omega
    have xgl1:¬wr.heap.size+1=gl:=by omega
    have zgl2:gl<wr.heap.size+1+1:=by omega
    have ygl2:¬gl=wr.heap.size+1+1:=by omega
    have xgl2:¬wr.heap.size+1+1=gl:=by omega
    have zgl3:gl<wr.heap.size+1+1+1:=by omega
    have ygl3:¬gl=wr.heap.size+1+1+1:=by omega
    have xgl3:¬wr.heap.size+1+1+1=gl:=by omega
    have zgh0:gh<wr.heap.size:=by omega
    have ygh0:¬gh=wr.heap.size:=by omega
    have xgh0:¬wr.heap.size=gh:=by omega
    have zgh1:gh<wr.heap.size+1:=by omega
    have ygh1:¬gh=wr.heap.size+1:=by omega
    have xgh1:¬wr.heap.size+1=gh:=by omega
    have zgh2:gh<wr.heap.size+1+1:=by omega
    have ygh2:¬gh=wr.heap.size+1+1:=by omega
    have xgh2:¬wr.heap.size+1+1=gh:=by omega
    have zgh3:gh<wr.heap.size+1+1+1:=by omega
    have ygh3:¬gh=wr.heap.size+1+1+1:=by omega
    have xgh3:¬wr.heap.size+1+1+1=gh:=by omega
    have zrr0:w.heap.size+1+1<wr.heap.size:=by omega
    have yrr0:¬w.heap.size+1+1=wr.heap.size:=by omega
    have xrr0:¬wr.heap.size=w.heap.size+1+1:=by omega
    have zrr1:w.heap.size+1+1<wr.heap.size+1:=by omega
    have yrr1:¬w.heap.size+1+1=wr.heap.size+1:=by omega
    have xrr1:¬wr.heap.size+1=w.heap.size+1+1:=by omega
    have zrr2:w.heap.size+1+1<wr.heap.size+1+1:=by omega
    have yrr2:¬w.heap.size+1+1=wr.heap.size+1+1:=by omega
    have xrr2:¬wr.heap.size+1+1=w.heap.size+1+1:=by omega
    have zrr3:w.heap.size+1+1<wr.heap.size+1+1+1:=by omega
    have yrr3:¬w.heap.size+1+1=wr.heap.size+1+1+1:=by omega
    have xrr3:¬wr.heap.size+1+1+1=w.heap.size+1+1:=by omega
    have zaa0:w.heap.size<wr.heap.size:=by omega
    have yaa0:¬w.heap.size=wr.heap.size:=by omega
    have xaa0:¬wr.heap.size=w.heap.size:=by omega
    have zaa1:w.heap.size<wr.heap.size+1:=by omega
    have yaa1:¬w.heap.size=wr.heap.size+1:=by omega
    have xaa1:¬wr.heap.size+1=w.heap.size:=by omega
    have zaa2:w.heap.size<wr.heap.size+1+1:=by omega
    have yaa2:¬w.heap.size=wr.heap.size+1+1:=by omega
    have xaa2:¬wr.heap.size+1+1=w.heap.size:=by omega
    have zaa3:w.heap.size<wr.heap.size+1+1+1:=by omega
    have yaa3:¬w.heap.size=wr.heap.size+1+1+1:=by omega
    have xaa3:¬wr.heap.size+1+1+1=w.heap.size:=by omega
    have zbb0:w.heap.size+1<wr.heap.size:=by omega
    have ybb0:¬w.heap.size+1=wr.heap.size:=by omega
    have xbb0:¬wr.heap.size=w.heap.size+1:=by omega
    have zbb1:w.heap.size+1<wr.heap.size+1:=by omega
    have ybb1:¬w.heap.size+1=wr.heap.size+1:=by omega
    have xbb1:¬wr.heap.size+1=w.heap.size+1:=by omega
    have zbb2:w.heap.size+1<wr.heap.size+1+1:=by omega
    have ybb2:¬w.heap.size+1=wr.heap.size+1+1:=by omega
    have xbb2:¬wr.heap.size+1+1=w.heap.size+1:=by omega
    have zbb3:w.heap.size+1<wr.heap.size+1+1+1:=by omega
    have ybb3:¬w.heap.size+1=wr.heap.size+1+1+1:=by omega
    have xbb3:¬wr.heap.size+1+1+1=w.heap.size+1:=by omega
    obtain ⟨L,hL⟩:∃ L,L=mulLo al ah bl bh:=⟨_,rfl⟩
    obtain ⟨M,hM⟩:∃ M,M=mulHi al ah bl bh:=⟨_,rfl⟩
    rw [<-hL] at l0 l1
    rw [<-hM] at m0 m1
    have HL:Hid _:=And.intro hL hM
    have HRW:Hid _:=hRR
    have HOK:Hid _:=hJ0
    clear hJ0 hJ1 hJ2 hJ3 hL hM hRR hJ
    by_cases f1:In64 L
    ·by_cases f2:In64 M
     ·have E:Hid (mulI al ah bl bh=(wrap64 (loW L),wrap64 (loW M),true)):=by
       unfold Hid mulI
       rw [if_neg (by omega),<-HL.out.1,<-HL.out.2,if_pos ⟨f1,f2⟩,wlo,wlo,wrap64_id f1,wrap64_id f2]
      have e1:decide (In64 L)=true:=decide_eq_true f1
      have e2:decide (In64 M)=true:=decide_eq_true f2
      clear f1 f2
      go_wp2_with (first | (go_at_call 117;refine (wfits_ex _ _).mono ?_;rintro e w' ⟨rfl,rfl⟩) | fail)
      (try simp only [Exit.inBlock,Exit.then])
      refine bodyPost_ret (results_iv rfl _ _ (w.heap.size+2) 24 #[_,_] (0,0) _ rfl (heap_past _ _ _ (by simp;omega) (heap_past _ _ _ (by simp;omega) (row_set2 HRW.out _ _))) Tryz.underlying24 rfl infoI) rfl ?_
      exact ⟨retib E.out,Ok.alloc (Ok.alloc (((hokW.step HOK.out).set (by simp;omega) _).set (by simp;omega) _) _) _⟩
     ·have e1:decide (In64 L)=true:=decide_eq_true f1
      have e2:decide (In64 M)=false:=decide_eq_false f2
      have hn:¬(In64 L/\In64 M):=fun h=>f2 h.2
      clear f1 f2
      by_cases p1:al=ah
      ·have k1:(al==ah)=true:=by rw [beq_iff_eq];exact p1
       by_cases p2:bl=bh
       ·have k2:(bl==bh)=true:=by rw [beq_iff_eq];exact p2
        have E:Hid (mulI al ah bl bh=(wrap64 (loW L),wrap64 (loW L),false)):=by
         unfold Hid mulI
         rw [if_neg (by omega),<-HL.out.1,<-HL.out.2,if_neg hn,if_pos ⟨p1,p2⟩,wlo]
        clear p1 p2 hn
        go_wp2_with (first | (go_at_call 117;refine (wfits_ex _ _).mono ?_;rintro e w' ⟨rfl,rfl⟩) | fail)
        (try simp only [Exit.inBlock,Exit.then])
        refine bodyPost_ret (results_iv rfl _ _ (w.heap.size+2) 24 #[_,_] (0,0) _ rfl (heap_past _ _ _ (by simp;omega) (heap_past _ _ _ (by simp;omega) (row_set2 HRW.out _ _))) Tryz.underlying24 rfl infoI) rfl ?_
        exact ⟨retib E.out,Ok.alloc (Ok.alloc (((hokW.step HOK.out).set (by simp;omega) _).set (by simp;omega) _) _) _⟩
       ·have k2:(bl==bh)=false:=by rw [beq_eq_false_iff_ne];exact p2
        have E:Hid (mulI al ah bl bh=(-9223372036854775808,9223372036854775807,false)):=by
         unfold Hid mulI
         rw [if_neg (by omega),<-HL.out.1,<-HL.out.2,if_neg hn,if_neg (fun h=>p2 h.2)]
        clear p1 p2 hn
        go_wp2_with (first | (go_at_call 117;refine (wfits_ex _ _).mono ?_;rintro e w' ⟨rfl,rfl⟩) | fail)
        (try simp only [Exit.inBlock,Exit.then])
        refine bodyPost_ret (results_iv rfl _ _ (w.heap.size+2) 24 #[_,_] (0,0) _ rfl (heap_past _ _ _ (by simp;omega) (heap_past _ _ _ (by simp;omega) (row_set2 HRW.out _ _))) Tryz.underlying24 rfl infoI) rfl ?_
        exact ⟨retib E.out,Ok.alloc (Ok.alloc (((hokW.step HOK.out).set (by simp;omega) _).set (by simp;omega) _) _) _⟩
      ·have k1:(al==ah)=false:=by rw [beq_eq_false_iff_ne];exact p1
       have E:Hid (mulI al ah bl bh=(-9223372036854775808,9223372036854775807,false)):=by
        unfold Hid mulI
        rw [if_neg (by omega),<-HL.out.1,<-HL.out.2,if_neg hn,if_neg (fun h=>p1 h.1)]
       clear p1 hn
       go_wp2_with (first | (go_at_call 117;refine (wfits_ex _ _).mono ?_;rintro e w' ⟨rfl,rfl⟩) | fail)
       (try simp only [Exit.inBlock,Exit.then])
       refine bodyPost_ret (results_iv rfl _ _ (w.heap.size+2) 24 #[_,_] (0,0) _ rfl (heap_past _ _ _ (by simp;omega) (heap_past _ _ _ (by simp;omega) (row_set2 HRW.out _ _))) Tryz.underlying24 rfl infoI) rfl ?_
       exact ⟨retib E.out,Ok.alloc (Ok.alloc (((hokW.step HOK.out).set (by simp;omega) _).set (by simp;omega) _) _) _⟩
    ·have e1:decide (In64 L)=false:=decide_eq_false f1
     have hn:¬(In64 L/\In64 M):=fun h=>f1 h.1
     clear f1
     by_cases p1:al=ah
     ·have k1:(al==ah)=true:=by rw [beq_iff_eq];exact p1
      by_cases p2:bl=bh
      ·have k2:(bl==bh)=true:=by rw [beq_iff_eq];exact p2
       have E:Hid (mulI al ah bl bh=(wrap64 (loW L),wrap64 (loW L),false)):=by
        unfold Hid mulI
        rw [if_neg (by omega),<-HL.out.1,<-HL.out.2,if_neg hn,if_pos ⟨p1,p2⟩,wlo]
       clear p1 p2 hn
       go_wp2_with (first | (go_at_call 117;refine (wfits_ex _ _).mono ?_;rintro e w' ⟨rfl,rfl⟩) | fail)
       (try simp only [Exit.inBlock,Exit.then])
       refine bodyPost_ret (results_iv rfl _ _ (w.heap.size+2) 24 #[_,_] (0,0) _ rfl (heap_past _ _ _ (by simp;omega) (row_set2 HRW.out _ _)) Tryz.underlying24 rfl infoI) rfl ?_
       exact ⟨retib E.out,Ok.alloc (((hokW.step HOK.out).set (by simp;omega) _).set (by simp;omega) _) _⟩
      ·have k2:(bl==bh)=false:=by rw [beq_eq_false_iff_ne];exact p2
       have E:Hid (mulI al ah bl bh=(-9223372036854775808,9223372036854775807,false)):=by
        unfold Hid mulI
        rw [if_neg (by omega),<-HL.out.1,<-HL.out.2,if_neg hn,if_neg (fun h=>p2 h.2)]
       clear p1 p2 hn
       go_wp2_with (first | (go_at_call 117;refine (wfits_ex _ _).mono ?_;rintro e w' ⟨rfl,rfl⟩) | fail)
       (try simp only [Exit.inBlock,Exit.then])
       refine bodyPost_ret (results_iv rfl _ _ (w.heap.size+2) 24 #[_,_] (0,0) _ rfl (heap_past _ _ _ (by simp;omega) (row_set2 HRW.out _ _)) Tryz.underlying24 rfl infoI) rfl ?_
       exact ⟨retib E.out,Ok.alloc (((hokW.step HOK.out).set (by simp;omega) _).set (by simp;omega) _) _⟩
     ·have k1:(al==ah)=false:=by rw [beq_eq_false_iff_ne];exact p1
      have E:Hid (mulI al ah bl bh=(-9223372036854775808,9223372036854775807,false)):=by
       unfold Hid mulI
       rw [if_neg (by omega),<-HL.out.1,<-HL.out.2,if_neg hn,if_neg (fun h=>p1 h.1)]
      clear p1 hn
      go_wp2_with (first | (go_at_call 117;refine (wfits_ex _ _).mono ?_;rintro e w' ⟨rfl,rfl⟩) | fail)
      (try simp only [Exit.inBlock,Exit.then])
      refine bodyPost_ret (results_iv rfl _ _ (w.heap.size+2) 24 #[_,_] (0,0) _ rfl (heap_past _ _ _ (by simp;omega) (row_set2 HRW.out _ _)) Tryz.underlying24 rfl infoI) rfl ?_
      exact ⟨retib E.out,Ok.alloc (((hokW.step HOK.out).set (by simp;omega) _).set (by simp;omega) _) _⟩
theorem rmul_any (al ah bl bh:Int) (w0 w:World) (hok:Ok w0 w) (ha1:In64 al) (ha2:In64 ah) (hb1:In64 bl) (hb2:In64 bh) :
  Calls Tryz.prog 39 #[.agg #[.int .i64 al,.int .i64 ah],.agg #[.int .i64 bl,.int .i64 bh]] w fun e w'=>e=.returned (.tuple #[.agg #[.int .i64 (mulI al ah bl bh).1,.int .i64 (mulI al ah bl bh).2.1],.bool (mulI al ah bl bh).2.2])/\Ok w0 w':=by
 by_cases hc:ah<al
 ·have E:Hid _:=mul_none (bl:=bl) (bh:=bh) (Or.inl hc)
  have d:decide (ah<al)=true:=decide_eq_true hc
  go_enter Tryz.func39,Tryz.ntmps39
  go_wp2_with (first | (go_at_call 101;refine (rnone_any _).mono ?_;rintro e w' ⟨rfl,rfl⟩) | (go_at_call 100;refine (rempty_ex _ _ _).mono ?_;rintro e w' ⟨rfl,rfl⟩))
  (try simp only [Exit.inBlock, Exit.then]); refine bodyPost_ret (results_iv rfl _ _ (w.heap.size + 2) 24 #[_, _] (0, 0) _ rfl jj Tryz.underlying24 rfl infoI) rfl ?_
  exact ⟨retib E.out,(by repeat (first | exact hok | refine Ok.alloc ?_ _ | refine Ok.draws ?_ _ | fail))⟩
 ·by_cases hc2:bh<bl
  ·have E:Hid _:=mul_none (al:=al) (ah:=ah) (Or.inr hc2)
   have d:decide (ah<al)=false:=decide_eq_false hc
   have d2:decide (bh<bl)=true:=decide_eq_true hc2
   go_enter Tryz.func39,Tryz.ntmps39
   go_wp2_with (first | (go_at_call 101;refine (rnone_any _).mono ?_;rintro e w' ⟨rfl,rfl⟩) | (go_at_call 100;refine (rempty_ex _ _ _).mono ?_;rintro e w' ⟨rfl,rfl⟩))
   (try simp only [Exit.inBlock, Exit.then]); refine bodyPost_ret (results_iv rfl _ _ (w.heap.size + 2) 24 #[_, _] (0, 0) _ rfl jj Tryz.underlying24 rfl infoI) rfl ?_
   exact ⟨retib E.out,(by repeat (first | exact hok | refine Ok.alloc ?_ _ | refine Ok.draws ?_ _ | fail))⟩
  ·exact rmul_c al ah bl bh w0 w hok ha1 ha2 hb1 hb2 (by omega) (by omega)
end Go.Proofs.YtpjpjhjjhoeijaaGreat
