import Derived.Test.YtnjmjnmhldhaoaaGreatKKd
import Derived.Test.YtnjmjnmhldhaoaaGreatKKf
set_option maxHeartbeats 8000000
set_option linter.all false
namespace Go.Proofs.YtnjmjnmhldhaoaaGreat
open Go.RowKit
structure StepL (cM dM x y a b m:Nat):Prop where
 ha:a=Nat.gcd cM x
 hb:b=Nat.gcd dM y
 hm:m=Nat.gcd (cM/a) (dM/b)
 a0:0<a
 b0:0<b
 au:U64 a
 bu:U64 b
 mu:U64 m
 g:Nat.gcd (cM*dM) (Nat.gcd (x*dM) (y*cM))=a*b*m
 am:0<cM->U64 (a*m)
 bm:cM=0->U64 (b*m)
theorem gcd_div_le {c a d:Nat} (h:a ∣ c) (hc:0<c):a*Nat.gcd (c/a) d<=c:=by
 have h1:Nat.gcd (c/a) d ∣ c/a:=Nat.gcd_dvd_left _ _
 have h2:a*Nat.gcd (c/a) d ∣ a*(c/a):=Nat.mul_dvd_mul_left a h1
 rw [Nat.mul_div_cancel' h] at h2
 exact Nat.le_of_dvd hc h2
theorem stepL {cM dM x y:Nat} (h1:U64 cM) (h2:U64 dM) (hx:U64 x) (hy:U64 y) (hc:¬(cM=0/\x=0)) (hd:¬(dM=0/\y=0)) :
  ∃ a b m,StepL cM dM x y a b m:=by
 have a0:0<Nat.gcd cM x:=Nat.pos_of_ne_zero fun c=>hc (Nat.gcd_eq_zero_iff.1 c)
 have b0:0<Nat.gcd dM y:=Nat.pos_of_ne_zero fun c=>hd (Nat.gcd_eq_zero_iff.1 c)
 have d1:=Nat.div_le_self cM (Nat.gcd cM x)
 have d2:=Nat.div_le_self dM (Nat.gcd dM y)
 refine ⟨_,_,_,rfl,rfl,rfl,a0,b0,gcd_u64 h1 hx,gcd_u64 h2 hy,gcd_u64 (by unfold U64 at *;omega) (by unfold U64 at *;omega),mulG_parts,?_,?_⟩
 ·intro h
  have:=gcd_div_le (d:=dM/Nat.gcd dM y) (Nat.gcd_dvd_left cM x) h
  unfold U64 at *;omega
 ·intro h
  rw [h,Nat.zero_div,Nat.gcd_zero_left,Nat.mul_div_cancel' (Nat.gcd_dvd_left dM y)]
  exact h2
theorem div_nat {a b:Nat}:(a:Int)/(b:Int)=((a/b:Nat):Int):=(Int.natCast_ediv _ _).symm
set_option maxRecDepth 100000 in
theorem pstep_any (cM cR dM dR:Nat) (h1:U64 cM) (h2:U64 cR) (h3:U64 dM) (h4:U64 dR) (hc:¬(cM=0/\cR=0)) (hd:¬(dM=0/\dR=0)) (w0 w:World) (hok:Ok w0 w) :
  Calls Tryz.prog 235 #[cv cM cR,cv dM dR] w fun e w'=>e=.returned (bv (mulG cM cR dM dR))/\Ok w0 w':=by
 have hle:=hok.le
 have hx:=rF_rng h1 h2
 have hy:=rF_rng h3 h4
 have hcx:¬(cM=0/\rF cM cR=0):=fun c=>by have:=rF_ne h2 hc c.1;omega
 have hdx:¬(dM=0/\rF dM dR=0):=fun c=>by have:=rF_ne h4 hd c.1;omega
 unfold mulG
 have HU:Hid _:=And.intro h1 (And.intro h2 (And.intro h3 h4))
 obtain ⟨x,ex⟩:∃ x,x=rF cM cR:=⟨_,rfl⟩
 obtain ⟨y,ey⟩:∃ y,y=rF dM dR:=⟨_,rfl⟩
 rw [<-ex] at hx hcx
 rw [<-ey] at hy hdx
 rw [<-ex,<-ey]
 have HE:Hid _:=And.intro ex ey
 have HXY:Hid (U64 x/\U64 y):=⟨hx,hy⟩
 obtain ⟨a,b,m,L⟩:=stepL h1 h3 hx hy hcx hdx
 rw [L.g]
 have HL:Hid _:=L
 obtain ⟨p,hp⟩:∃ p,p=cM/a:=⟨_,rfl⟩
 obtain ⟨q,hq⟩:∃ q,q=dM/b:=⟨_,rfl⟩
 have HPQ:Hid (m=Nat.gcd p q/\U64 p/\U64 q):=by
  refine ⟨by rw [hp,hq];exact L.hm,?_,?_⟩
  ·have:=Nat.div_le_self cM a;unfold U64 at *;omega
  ·have:=Nat.div_le_self dM b;unfold U64 at *;omega
 have e1:(cM:Int)/(a:Int)=(p:Int):=by rw [hp];exact div_nat
 have e2:(dM:Int)/(b:Int)=(q:Int):=by rw [hq];exact div_nat
 have e3:¬(a:Int)=0:=by have:=L.a0;omega
 have e4:¬(b:Int)=0:=by have:=L.b0;omega
 have e5:((a:Int)==0)=false:=by simp;have:=L.a0;omega
 have e6:((b:Int)==0)=false:=by simp;have:=L.b0;omega
 have n1:¬a=0:=by have:=L.a0;omega
 have n2:¬b=0:=by have:=L.b0;omega
 have n3:(a==0)=false:=by simp;exact n1
 have n4:(b==0)=false:=by simp;exact n2
 have n5:(cM:Int).tdiv (a:Int)=(p:Int):=by rw [Int.tdiv_eq_ediv_of_nonneg (by omega)];exact e1
 have n6:(dM:Int).tdiv (b:Int)=(q:Int):=by rw [Int.tdiv_eq_ediv_of_nonneg (by omega)];exact e2
 have n7:(0:Int)<=(cM:Int):=by omega
 have n8:(0:Int)<=(dM:Int):=by omega
 have n9:(0:Int)<=(a:Int):=by omega
 have n10:(0:Int)<=(b:Int):=by omega
 have e7:IntKind.u64.wrap (p:Int)=(p:Int):=by have:=HPQ.out.2.1;unfold U64 at this;rw [u64w];omega
 have e8:IntKind.u64.wrap (q:Int)=(q:Int):=by have:=HPQ.out.2.2;unfold U64 at this;rw [u64w];omega
 by_cases hz:cM=0
 ·have d:decide (cM=0)=true:=decide_eq_true hz
  have HBM:Hid (U64 (b*m)):=L.bm hz
  obtain ⟨k,hk⟩:∃ k,k=b*m:=⟨_,rfl⟩
  rw [<-hk] at HBM
  have e9:IntKind.u64.wrap ((b:Int)*(m:Int))=(k:Int):=by
   have:=HBM.out;unfold U64 at this;rw [hk] at this ⊢;rw [<-Int.natCast_mul,u64w];omega
  have HR:Hid (a*k=a*b*m):=by unfold Hid;rw [hk,Nat.mul_assoc]
  rw [<-HR.out]
  clear hz hk hp hq L hx hy hcx hdx ex ey hc hd h1 h2 h3 h4
  unfold cv
  go_enter Tryz.func235,Tryz.ntmps235
  go_wp2_with fail
  obtain ⟨W,hW⟩:∃ W,W=(((w.alloc (.cells #[.int .u64 (cM:Int),.int .u64 (cR:Int)] 27)).alloc (.cells #[.int .u64 (dM:Int),.int .u64 (dR:Int)] 27)).alloc (.cells #[.int .u64 0,.int .u64 0] 173)):=⟨_,rfl⟩
  have ra0:W.heap[w.heap.size]?=some (.cells #[.int .u64 (cM:Int),.int .u64 (cR:Int)] 27):=by rw [hW];exact jj
  have ra1:W.heap[w.heap.size+1]?=some (.cells #[.int .u64 (dM:Int),.int .u64 (dR:Int)] 27):=by rw [hW];exact jj
  have ra2:W.heap[w.heap.size+2]?=some (.cells #[.int .u64 0,.int .u64 0] 173):=by rw [hW];exact jj
  have HW:Hid (Ok w0 W):=by rw [hW];exact (by repeat (first | exact hok | refine Ok.alloc ?_ _ | refine Ok.draws ?_ _ | fail))
  rw [<-hW]
  clear hW hok
  have z0:=lt_row ra0
  have HR0:Hid _:=ra0
  obtain ⟨g00,g01,f00,f01⟩:=row_facts ra0
  have z1:=lt_row ra1
  have HR1:Hid _:=ra1
  obtain ⟨g10,g11,f10,f11⟩:=row_facts ra1
  have z2:=lt_row ra2
  have HR2:Hid _:=ra2
  obtain ⟨g20,g21,f20,f21⟩:=row_facts ra2
  clear ra0 ra1 ra2
  have bz:Ok W W:=Ok.refl _
  go_region_held3 (fun w'=>w'.cell? ⟨w.heap.size,0,none⟩=some (.int .u64 (cM:Int))/\w'.cell? ⟨w.heap.size,1,none⟩=some (.int .u64 (cR:Int))/\w'.cell? ⟨w.heap.size+1,0,none⟩=some (.int .u64 (dM:Int))/\w'.cell? ⟨w.heap.size+1,1,none⟩=some (.int .u64 (dR:Int))) (go_keep)
   (first
   | (go_at_call 255;refine (psize_any _ _ (by first | exact HU.out.1 | exact HU.out.2.2.1) (by first | exact HU.out.2.1 | exact HU.out.2.2.2) W _ (by repeat (first | assumption | refine Ok.alloc ?_ _ | refine Below.drew ?_))).mono ?_;rintro e w' ⟨rfl,hb⟩;(first | rw [<-HE.out.1] | rw [<-HE.out.2]);have q00:=Ok.cell hb z0 g00;have q01:=Ok.cell hb z0 g01;have q10:=Ok.cell hb z1 g10;have q11:=Ok.cell hb z1 g11)
   | (go_at_call 152;refine (pgcd2_any _ _ _ W _ (by repeat (first | assumption | refine Ok.alloc ?_ _ | refine Below.drew ?_)) (by first | exact HU.out.1 | exact HU.out.2.2.1) (by first | exact HXY.out.1 | exact HXY.out.2) (heap_new0 _ _)).mono ?_;rintro e w' ⟨rfl,hb⟩;(first | rw [<-HL.out.ha] | rw [<-HL.out.hb]);have q00:=Ok.cell hb z0 g00;have q01:=Ok.cell hb z0 g01;have q10:=Ok.cell hb z1 g10;have q11:=Ok.cell hb z1 g11)
   | fail)
  have HB1:Hid (Ok W w'):=hb
  clear hb
  go_wp2_with fail
  have hbq:=HB1.out
  go_region_held3 (fun w'=>w'.cell? ⟨w.heap.size,0,none⟩=some (.int .u64 (cM:Int))/\w'.cell? ⟨w.heap.size,1,none⟩=some (.int .u64 (cR:Int))/\w'.cell? ⟨w.heap.size+1,0,none⟩=some (.int .u64 (dM:Int))/\w'.cell? ⟨w.heap.size+1,1,none⟩=some (.int .u64 (dR:Int))) (go_keep)
   (first
   | (go_at_call 152;refine (pgcd2_any p q w'.heap.size W (w'.alloc (.cells #[.int .u64 (p:Int),.int .u64 (q:Int)] 25)).drew (by repeat (first | assumption | refine Ok.alloc ?_ _ | refine Below.drew ?_)) HPQ.out.2.1 HPQ.out.2.2 (heap_new0 w' (.cells #[.int .u64 (p:Int),.int .u64 (q:Int)] 25))).mono ?_;rintro e u ⟨rfl,hb⟩;rw [<-HPQ.out.1];have q00:=Ok.cell hb z0 g00;have q01:=Ok.cell hb z0 g01;have q10:=Ok.cell hb z1 g10;have q11:=Ok.cell hb z1 g11)
   | fail)
  clear hbq
  have HB2:Hid (Ok W u):=hb
  clear hb
  go_wp2_with fail
  refine (pisone_ex cM cR _).mono ?_
  rintro e v ⟨rfl,rfl⟩
  go_wp2_with fail
  refine (pproduct_ex a k HL.out.au HBM.out _).mono ?_
  rintro e v ⟨rfl,rfl⟩
  have hr:Hid _:=heap_past _ (.cells #[.int .u64 (hiB (a*k)),.int .u64 (loB (a*k))] 173) _ (by have:=lt_row (Ok.row' HB2.out HR2.out);simp;omega) (heap_past _ (.cells #[.int .u64 (cM:Int),.int .u64 (cR:Int)] 27) _ (by have:=lt_row (Ok.row' HB2.out HR2.out);omega) (Ok.row' HB2.out HR2.out))
  have HB3:Hid (Ok W ((u.alloc (.cells #[.int .u64 (cM:Int),.int .u64 (cR:Int)] 27)).alloc (.cells #[.int .u64 (hiB (a*k)),.int .u64 (loB (a*k))] 173))):=(HB2.out.alloc _).alloc _
  obtain ⟨V,hV⟩:∃ V,V=((u.alloc (.cells #[.int .u64 (cM:Int),.int .u64 (cR:Int)] 27)).alloc (.cells #[.int .u64 (hiB (a*k)),.int .u64 (loB (a*k))] 173)):=⟨_,rfl⟩
  rw [<-hV] at hr HB3 ⊢
  clear hV
  obtain ⟨k0,k1,k2,k3⟩:=row_facts hr.out
  unfold bv
  go_wp2_with fail
  (try simp only [Exit.inBlock,Exit.then]);refine bodyPost_ret (results_cell_row rfl _ _ (w.heap.size+2) 173 #[_,_] (0,0) _ rfl (row_set2 hr.out _ _) Tryz.underlying173 rfl infoWd) rfl ?_
  exact ⟨rfl,((Ok.step HW.out HB3.out).set (show w0.heap.size<=w.heap.size+2 by omega) _).set (show w0.heap.size<=w.heap.size+2 by omega) _⟩
 ·have d:decide (cM=0)=false:=decide_eq_false hz
  have HBM:Hid (U64 (a*m)):=L.am (by omega)
  obtain ⟨k,hk⟩:∃ k,k=a*m:=⟨_,rfl⟩
  rw [<-hk] at HBM
  have e9:IntKind.u64.wrap ((a:Int)*(m:Int))=(k:Int):=by
   have:=HBM.out;unfold U64 at this;rw [hk] at this ⊢;rw [<-Int.natCast_mul,u64w];omega
  have HR:Hid (k*b=a*b*m):=by unfold Hid;rw [hk,Nat.mul_assoc,Nat.mul_assoc,Nat.mul_comm m b]
  rw [<-HR.out]
  clear hz hk hp hq L hx hy hcx hdx ex ey hc hd h1 h2 h3 h4
  unfold cv
  go_enter Tryz.func235,Tryz.ntmps235
  go_wp2_with fail
  obtain ⟨W,hW⟩:∃ W,W=(((w.alloc (.cells #[.int .u64 (cM:Int),.int .u64 (cR:Int)] 27)).alloc (.cells #[.int .u64 (dM:Int),.int .u64 (dR:Int)] 27)).alloc (.cells #[.int .u64 0,.int .u64 0] 173)):=⟨_,rfl⟩
  have ra0:W.heap[w.heap.size]?=some (.cells #[.int .u64 (cM:Int),.int .u64 (cR:Int)] 27):=by rw [hW];exact jj
  have ra1:W.heap[w.heap.size+1]?=some (.cells #[.int .u64 (dM:Int),.int .u64 (dR:Int)] 27):=by rw [hW];exact jj
  have ra2:W.heap[w.heap.size+2]?=some (.cells #[.int .u64 0,.int .u64 0] 173):=by rw [hW];exact jj
  have HW:Hid (Ok w0 W):=by rw [hW];exact (by repeat (first | exact hok | refine Ok.alloc ?_ _ | refine Ok.draws ?_ _ | fail))
  rw [<-hW]
  clear hW hok
  have z0:=lt_row ra0
  have HR0:Hid _:=ra0
  obtain ⟨g00,g01,f00,f01⟩:=row_facts ra0
  have z1:=lt_row ra1
  have HR1:Hid _:=ra1
  obtain ⟨g10,g11,f10,f11⟩:=row_facts ra1
  have z2:=lt_row ra2
  have HR2:Hid _:=ra2
  obtain ⟨g20,g21,f20,f21⟩:=row_facts ra2
  clear ra0 ra1 ra2
  have bz:Ok W W:=Ok.refl _
  go_region_held3 (fun w'=>w'.cell? ⟨w.heap.size,0,none⟩=some (.int .u64 (cM:Int))/\w'.cell? ⟨w.heap.size,1,none⟩=some (.int .u64 (cR:Int))/\w'.cell? ⟨w.heap.size+1,0,none⟩=some (.int .u64 (dM:Int))/\w'.cell? ⟨w.heap.size+1,1,none⟩=some (.int .u64 (dR:Int))) (go_keep)
   (first
   | (go_at_call 255;refine (psize_any _ _ (by first | exact HU.out.1 | exact HU.out.2.2.1) (by first | exact HU.out.2.1 | exact HU.out.2.2.2) W _ (by repeat (first | assumption | refine Ok.alloc ?_ _ | refine Below.drew ?_))).mono ?_;rintro e w' ⟨rfl,hb⟩;(first | rw [<-HE.out.1] | rw [<-HE.out.2]);have q00:=Ok.cell hb z0 g00;have q01:=Ok.cell hb z0 g01;have q10:=Ok.cell hb z1 g10;have q11:=Ok.cell hb z1 g11)
   | (go_at_call 152;refine (pgcd2_any _ _ _ W _ (by repeat (first | assumption | refine Ok.alloc ?_ _ | refine Below.drew ?_)) (by first | exact HU.out.1 | exact HU.out.2.2.1) (by first | exact HXY.out.1 | exact HXY.out.2) (heap_new0 _ _)).mono ?_;rintro e w' ⟨rfl,hb⟩;(first | rw [<-HL.out.ha] | rw [<-HL.out.hb]);have q00:=Ok.cell hb z0 g00;have q01:=Ok.cell hb z0 g01;have q10:=Ok.cell hb z1 g10;have q11:=Ok.cell hb z1 g11)
   | fail)
  have HB1:Hid (Ok W w'):=hb
  clear hb
  go_wp2_with fail
  have hbq:=HB1.out
  go_region_held3 (fun w'=>w'.cell? ⟨w.heap.size,0,none⟩=some (.int .u64 (cM:Int))/\w'.cell? ⟨w.heap.size,1,none⟩=some (.int .u64 (cR:Int))/\w'.cell? ⟨w.heap.size+1,0,none⟩=some (.int .u64 (dM:Int))/\w'.cell? ⟨w.heap.size+1,1,none⟩=some (.int .u64 (dR:Int))) (go_keep)
   (first
   | (go_at_call 152;refine (pgcd2_any p q w'.heap.size W (w'.alloc (.cells #[.int .u64 (p:Int),.int .u64 (q:Int)] 25)).drew (by repeat (first | assumption | refine Ok.alloc ?_ _ | refine Below.drew ?_)) HPQ.out.2.1 HPQ.out.2.2 (heap_new0 w' (.cells #[.int .u64 (p:Int),.int .u64 (q:Int)] 25))).mono ?_;rintro e u ⟨rfl,hb⟩;rw [<-HPQ.out.1];have q00:=Ok.cell hb z0 g00;have q01:=Ok.cell hb z0 g01;have q10:=Ok.cell hb z1 g10;have q11:=Ok.cell hb z1 g11)
   | fail)
  clear hbq
  have HB2:Hid (Ok W u):=hb
  clear hb
  go_wp2_with fail
  refine (pisone_ex cM cR _).mono ?_
  rintro e v ⟨rfl,rfl⟩
  go_wp2_with fail
  refine (pproduct_ex k b HBM.out HL.out.bu _).mono ?_
  rintro e v ⟨rfl,rfl⟩
  have hr:Hid _:=heap_past _ (.cells #[.int .u64 (hiB (k*b)),.int .u64 (loB (k*b))] 173) _ (by have:=lt_row (Ok.row' HB2.out HR2.out);simp;omega) (heap_past _ (.cells #[.int .u64 (cM:Int),.int .u64 (cR:Int)] 27) _ (by have:=lt_row (Ok.row' HB2.out HR2.out);omega) (Ok.row' HB2.out HR2.out))
  have HB3:Hid (Ok W ((u.alloc (.cells #[.int .u64 (cM:Int),.int .u64 (cR:Int)] 27)).alloc (.cells #[.int .u64 (hiB (k*b)),.int .u64 (loB (k*b))] 173))):=(HB2.out.alloc _).alloc _
  obtain ⟨V,hV⟩:∃ V,V=((u.alloc (.cells #[.int .u64 (cM:Int),.int .u64 (cR:Int)] 27)).alloc (.cells #[.int .u64 (hiB (k*b)),.int .u64 (loB (k*b))] 173)):=⟨_,rfl⟩
  rw [<-hV] at hr HB3 ⊢
  clear hV
  obtain ⟨k0,k1,k2,k3⟩:=row_facts hr.out
  unfold bv
  go_wp2_with fail
  (try simp only [Exit.inBlock,Exit.then]);refine bodyPost_ret (results_cell_row rfl _ _ (w.heap.size+2) 173 #[_,_] (0,0) _ rfl (row_set2 hr.out _ _) Tryz.underlying173 rfl infoWd) rfl ?_
  exact ⟨rfl,((Ok.step HW.out HB3.out).set (show w0.heap.size<=w.heap.size+2 by omega) _).set (show w0.heap.size<=w.heap.size+2 by omega) _⟩
end Go.Proofs.YtnjmjnmhldhaoaaGreat
namespace Go.Proofs.YtnjmjnmhldhaoaaGreat
open Go.RowKit
set_option maxRecDepth 100000 in
theorem pmul_one (cR dR:Nat) (ex:Bool) (w0 w:World) (hok:Ok w0 w) :
  Calls Tryz.prog 207 #[cv 0 cR,cv 0 dR,.bool ex] w fun e w'=>e=.returned (cv (mulC 0 cR 0 dR ex).1 (mulC 0 cR 0 dR ex).2)/\Ok w0 w':=by
 have hle:=hok.le
 rw [show mulC 0 cR 0 dR ex=(0,bitsN (wrap64 (wrap64 (cR:Int)*wrap64 (dR:Int)))) by unfold mulC;rw [if_pos ⟨rfl,rfl⟩]]
 obtain ⟨v,hv⟩:∃ v,v=wrap64 (cR:Int):=⟨_,rfl⟩
 obtain ⟨z,hz⟩:∃ z,z=wrap64 (dR:Int):=⟨_,rfl⟩
 rw [<-hv,<-hz]
 obtain ⟨p,hp⟩:∃ p,p=wrap64 (v*z):=⟨_,rfl⟩
 rw [<-hp]
 obtain ⟨B,hB⟩:∃ B,B=bitsN p:=⟨_,rfl⟩
 rw [<-hB]
 have HE:Hid _:=And.intro hv (And.intro hz (And.intro hp hB))
 clear hv hz hp hB
 unfold cv
 go_enter Tryz.func207,Tryz.ntmps207
 go_wp2_with (first | (go_at_call 149;(first | refine (pisone_ex 0 cR _).mono ?_ | refine (pisone_ex 0 dR _).mono ?_);rintro e w' ⟨rfl,rfl⟩) | fail)
 obtain ⟨W,hW⟩:∃ W,W=(((((w.alloc (.cells #[.int .u64 0,.int .u64 (cR:Int)] 27)).alloc (.cells #[.int .u64 0,.int .u64 (dR:Int)] 27)).alloc (.cells #[.int .u64 0,.int .u64 0] 27)).alloc (.cells #[.int .u64 0,.int .u64 (cR:Int)] 27)).alloc (.cells #[.int .u64 0,.int .u64 (dR:Int)] 27)):=⟨_,rfl⟩
 have ra0:W.heap[w.heap.size]?=some (.cells #[.int .u64 0,.int .u64 (cR:Int)] 27):=by rw [hW];exact jj
 have ra1:W.heap[w.heap.size+1]?=some (.cells #[.int .u64 0,.int .u64 (dR:Int)] 27):=by rw [hW];exact jj
 have ra2:W.heap[w.heap.size+2]?=some (.cells #[.int .u64 0,.int .u64 0] 27):=by rw [hW];exact jj
 have ra3:W.heap[w.heap.size+3]?=some (.cells #[.int .u64 0,.int .u64 (cR:Int)] 27):=by rw [hW];exact jj
 have ra4:W.heap[w.heap.size+4]?=some (.cells #[.int .u64 0,.int .u64 (dR:Int)] 27):=by rw [hW];exact jj
 have HW:Hid (Ok w0 W):=by rw [hW];exact (by repeat (first | exact hok | refine Ok.alloc ?_ _ | refine Ok.draws ?_ _ | fail))
 rw [<-hW]
 clear hW hok
 have z0:=lt_row ra0
 have HR0:Hid _:=ra0
 obtain ⟨g00,g01,f00,f01⟩:=row_facts ra0
 have z1:=lt_row ra1
 have HR1:Hid _:=ra1
 obtain ⟨g10,g11,f10,f11⟩:=row_facts ra1
 have z2:=lt_row ra2
 have HR2:Hid _:=ra2
 obtain ⟨g20,g21,f20,f21⟩:=row_facts ra2
 have z3:=lt_row ra3
 have HR3:Hid _:=ra3
 obtain ⟨g30,g31,f30,f31⟩:=row_facts ra3
 have z4:=lt_row ra4
 have HR4:Hid _:=ra4
 obtain ⟨g40,g41,f40,f41⟩:=row_facts ra4
 clear ra0 ra1 ra2 ra3 ra4
 have bz:Ok W W:=Ok.refl _
 have n1:¬w.heap.size+1+1=w.heap.size:=by omega
 have n2:¬w.heap.size+1+1=w.heap.size+1:=by omega
 go_region_held3 (fun w'=>w'.cell? ⟨w.heap.size,0,none⟩=some (.int .u64 0)/\w'.cell? ⟨w.heap.size,1,none⟩=some (.int .u64 (cR:Int))/\w'.cell? ⟨w.heap.size+1,0,none⟩=some (.int .u64 0)/\w'.cell? ⟨w.heap.size+1,1,none⟩=some (.int .u64 (dR:Int))) (go_keep)
  (first
  | (go_at_call 218;refine (pnumber_ok 0 _ W _ (by repeat (first | assumption | refine Ok.alloc ?_ _ | refine Below.drew ?_))).mono ?_;rintro e w' ⟨rfl,hb⟩;(first | rw [<-HE.out.1] | rw [<-HE.out.2.1]);have q00:=Ok.cell hb z0 g00;have q01:=Ok.cell hb z0 g01;have q10:=Ok.cell hb z1 g10;have q11:=Ok.cell hb z1 g11;obtain ⟨c0,c1,c2,c3⟩:=row_facts (Ok.row' hb HR2.out))
  | (go_at_call 213;refine (wmul_any v z W _ (by repeat (first | assumption | refine Ok.alloc ?_ _ | refine Below.drew ?_))).mono ?_;rintro e w' ⟨rfl,hb⟩;rw [<-HE.out.2.2.1];have q00:=Ok.cell hb z0 g00;have q01:=Ok.cell hb z0 g01;have q10:=Ok.cell hb z1 g10;have q11:=Ok.cell hb z1 g11;obtain ⟨c0,c1,c2,c3⟩:=row_facts (Ok.row' hb HR2.out))
  | (go_at_call 123;refine (pconst_any p W _ (by repeat (first | assumption | refine Ok.alloc ?_ _ | refine Below.drew ?_))).mono ?_;rintro e w' ⟨rfl,hb⟩;rw [<-HE.out.2.2.2];unfold cv;have q00:=Ok.cell hb z0 g00;have q01:=Ok.cell hb z0 g01;have q10:=Ok.cell hb z1 g10;have q11:=Ok.cell hb z1 g11;obtain ⟨c0,c1,c2,c3⟩:=row_facts (Ok.row' hb HR2.out))
  | fail)
 have hr:Hid _:=Ok.row' hb HR2.out
 have HB2:Hid (Ok w0 w'):=HW.out.step hb
 go_wp2_with fail
 (try simp only [Exit.inBlock, Exit.then]); refine bodyPost_ret (results_cell_row rfl _ _ (w.heap.size+2) 27 #[_, _] (0, 0) _ rfl (row_set2 hr.out _ _) Tryz.underlying27 rfl infoCg) rfl ?_
 exact ⟨rfl,(HB2.out.set (show w0.heap.size<=w.heap.size+2 by omega) _).set (show w0.heap.size<=w.heap.size+2 by omega) _⟩
set_option maxRecDepth 100000 in
theorem pmul_zero (dM dR:Nat) (ex:Bool) (hd:dM≠0) (w0 w:World) (hok:Ok w0 w) :
  Calls Tryz.prog 207 #[cv 0 0,cv dM dR,.bool ex] w fun e w'=>e=.returned (cv (mulC 0 0 dM dR ex).1 (mulC 0 0 dM dR ex).2)/\Ok w0 w':=by
 have hle:=hok.le
 rw [show mulC 0 0 dM dR ex=(0,0) by unfold mulC;rw [if_neg (by omega),if_pos (Or.inl ⟨rfl,rfl⟩)]]
 have d1:decide ((0:Nat)=0)=true:=rfl
 have d2:decide (dM=0)=false:=decide_eq_false hd
 have HZ:Hid (bitsN 0=0):=rfl
 clear hd
 unfold cv
 go_enter Tryz.func207,Tryz.ntmps207
 go_wp2_with (first | (go_at_call 149;(first | refine (pisone_ex 0 0 _).mono ?_ | refine (pisone_ex dM dR _).mono ?_);rintro e w' ⟨rfl,rfl⟩) | fail)
 obtain ⟨W,hW⟩:∃ W,W=(((((w.alloc (.cells #[.int .u64 0,.int .u64 0] 27)).alloc (.cells #[.int .u64 (dM:Int),.int .u64 (dR:Int)] 27)).alloc (.cells #[.int .u64 0,.int .u64 0] 27)).alloc (.cells #[.int .u64 0,.int .u64 0] 27)).alloc (.cells #[.int .u64 (dM:Int),.int .u64 (dR:Int)] 27)):=⟨_,rfl⟩
 have ra0:W.heap[w.heap.size]?=some (.cells #[.int .u64 0,.int .u64 0] 27):=by rw [hW];exact jj
 have ra1:W.heap[w.heap.size+1]?=some (.cells #[.int .u64 (dM:Int),.int .u64 (dR:Int)] 27):=by rw [hW];exact jj
 have ra2:W.heap[w.heap.size+2]?=some (.cells #[.int .u64 0,.int .u64 0] 27):=by rw [hW];exact jj
 have ra3:W.heap[w.heap.size+3]?=some (.cells #[.int .u64 0,.int .u64 0] 27):=by rw [hW];exact jj
 have ra4:W.heap[w.heap.size+4]?=some (.cells #[.int .u64 (dM:Int),.int .u64 (dR:Int)] 27):=by rw [hW];exact jj
 have HW:Hid (Ok w0 W):=by rw [hW];exact (by repeat (first | exact hok | refine Ok.alloc ?_ _ | refine Ok.draws ?_ _ | fail))
 rw [<-hW]
 clear hW hok
 have z0:=lt_row ra0
 have HR0:Hid _:=ra0
 obtain ⟨g00,g01,f00,f01⟩:=row_facts ra0
 have z1:=lt_row ra1
 have HR1:Hid _:=ra1
 obtain ⟨g10,g11,f10,f11⟩:=row_facts ra1
 have z2:=lt_row ra2
 have HR2:Hid _:=ra2
 obtain ⟨g20,g21,f20,f21⟩:=row_facts ra2
 have z3:=lt_row ra3
 have HR3:Hid _:=ra3
 obtain ⟨g30,g31,f30,f31⟩:=row_facts ra3
 have z4:=lt_row ra4
 have HR4:Hid _:=ra4
 obtain ⟨g40,g41,f40,f41⟩:=row_facts ra4
 clear ra0 ra1 ra2 ra3 ra4
 have bz:Ok W W:=Ok.refl _
 refine wp_region_held_drew (S:=(fun w'=>w'.cell? ⟨w.heap.size,0,none⟩=some (.int .u64 0)/\w'.cell? ⟨w.heap.size,1,none⟩=some (.int .u64 0)/\w'.cell? ⟨w.heap.size+1,0,none⟩=some (.int .u64 (dM:Int))/\w'.cell? ⟨w.heap.size+1,1,none⟩=some (.int .u64 (dR:Int)))) (by kernel_rfl) (by (try dsimp only);go_keep) (fun hHeld=>?_)
 refine wpAnyH_take (i:=0) (v:=?_) rfl (by kernel_rfl) (by kernel_rfl) (by kernel_rfl) (fun _ _ _ h=>h) (Or.inl ⟨by rfl,?_⟩) (by assumption) ?_
 rotate_left
 ·intro w hSw;(try dsimp only at hSw);first | (go_simp;done) | (go_simp;with_reducible rfl)
 (try simp only [Act.put,List.getElem_toArray,List.getElem_cons_succ,List.getElem_cons_zero,List.setIfInBounds_toArray,List.set_cons_zero,List.set_cons_succ])
 refine wpAnyH_ready (rs:=[1]) (by kernel_rfl) (by simp) ?_
 refine AllReadyH.cons rfl (fun K hK=>?_) AllReadyH.nil
 go_simp
 refine (pconst_any 0 W _ (by repeat (first | assumption | refine Ok.alloc ?_ _ | refine Below.drew ?_))).mono ?_
 rintro e w1 ⟨rfl,hb1⟩
 rw [HZ.out]
 unfold cv
 have q1a:=Ok.cell hb1 z0 g00;have q1b:=Ok.cell hb1 z0 g01;have q1c:=Ok.cell hb1 z1 g10;have q1d:=Ok.cell hb1 z1 g11
 go_wp2_with fail
 refine hK.out _ _ (by (try dsimp only);go_keep) (fun hHeld=>?_)
 clear hK K
 (try simp only [Act.put,List.getElem_toArray,List.getElem_cons_succ,List.getElem_cons_zero,List.setIfInBounds_toArray,List.set_cons_zero,List.set_cons_succ])
 refine wpAnyH_take (i:=2) (v:=?_) rfl (by kernel_rfl) (by kernel_rfl) (by kernel_rfl) (fun _ _ _ h=>h) (Or.inl ⟨by rfl,?_⟩) (by assumption) ?_
 rotate_left
 ·intro w hSw;(try dsimp only at hSw);first | (go_simp;done) | (go_simp;with_reducible rfl)
 (try simp only [Act.put,List.getElem_toArray,List.getElem_cons_succ,List.getElem_cons_zero,List.setIfInBounds_toArray,List.set_cons_zero,List.set_cons_succ])
 refine wpAnyH_take (i:=3) (v:=?_) rfl (by kernel_rfl) (by kernel_rfl) (by kernel_rfl) (fun _ _ _ h=>h) (Or.inl ⟨by rfl,?_⟩) (by assumption) ?_
 rotate_left
 ·intro w hSw;(try dsimp only at hSw);first | (go_simp;done) | (go_simp;with_reducible rfl)
 (try simp only [Act.put,List.getElem_toArray,List.getElem_cons_succ,List.getElem_cons_zero,List.setIfInBounds_toArray,List.set_cons_zero,List.set_cons_succ])
 refine wpAnyH_take (i:=4) (v:=undef) rfl (by kernel_rfl) (by kernel_rfl) (by kernel_rfl) (fun _ _ _ h=>h) (Or.inr ⟨by rfl,rfl⟩) (by assumption) ?_
 (try simp only [Act.put,List.getElem_toArray,List.getElem_cons_succ,List.getElem_cons_zero,List.setIfInBounds_toArray,List.set_cons_zero,List.set_cons_succ])
 refine wpAnyH_take (i:=5) (v:=undef) rfl (by kernel_rfl) (by kernel_rfl) (by kernel_rfl) (fun _ _ _ h=>h) (Or.inr ⟨by rfl,rfl⟩) (by assumption) ?_
 (try simp only [Act.put,List.getElem_toArray,List.getElem_cons_succ,List.getElem_cons_zero,List.setIfInBounds_toArray,List.set_cons_zero,List.set_cons_succ])
 refine wpAnyH_take (i:=6) (v:=undef) rfl (by kernel_rfl) (by kernel_rfl) (by kernel_rfl) (fun _ _ _ h=>h) (Or.inr ⟨by rfl,rfl⟩) (by assumption) ?_
 (try simp only [Act.put,List.getElem_toArray,List.getElem_cons_succ,List.getElem_cons_zero,List.setIfInBounds_toArray,List.set_cons_zero,List.set_cons_succ])
 refine wpAnyH_take (i:=7) (v:=?_) rfl (by kernel_rfl) (by kernel_rfl) (by kernel_rfl) (fun _ _ _ h=>h) (Or.inl ⟨by rfl,?_⟩) (by assumption) ?_
 rotate_left
 ·intro w hSw;(try dsimp only at hSw);first | (go_simp;done) | (go_simp;with_reducible rfl)
 (try simp only [Act.put,List.getElem_toArray,List.getElem_cons_succ,List.getElem_cons_zero,List.setIfInBounds_toArray,List.set_cons_zero,List.set_cons_succ])
 refine wpAnyH_done (by kernel_rfl) ?_ _
 have HB1:Hid (Ok W w1):=hb1
 clear hb1
 go_wp2_with fail
 refine (pconst_any 0 W _ HB1.out).mono ?_
 rintro e w' ⟨rfl,hb⟩
 rw [HZ.out]
 have hr:Hid _:=Ok.row' hb HR2.out
 obtain ⟨k0,k1,k2,k3⟩:=row_facts hr.out
 have HB2:Hid (Ok w0 w'):=HW.out.step hb
 unfold cv
 go_wp2_with fail
 (try simp only [Exit.inBlock, Exit.then]); refine bodyPost_ret (results_cell_row rfl _ _ (w.heap.size+2) 27 #[_, _] (0, 0) _ rfl (row_set2 hr.out _ _) Tryz.underlying27 rfl infoCg) rfl ?_
 exact ⟨rfl,(HB2.out.set (show w0.heap.size<=w.heap.size+2 by omega) _).set (show w0.heap.size<=w.heap.size+2 by omega) _⟩
end Go.Proofs.YtnjmjnmhldhaoaaGreat
namespace Go.Proofs.YtnjmjnmhldhaoaaGreat
open Go.RowKit
set_option maxRecDepth 100000 in
theorem pmul_b (cM cR dM dR:Nat) (ex:Bool) (hz:cM=0) (h0:¬(cM=0/\dM=0)) (hc:¬(cM=0/\cR=0)) (hd:¬(dM=0/\dR=0)) (h1:U64 cM) (h2:U64 cR) (h3:U64 dM) (h4:U64 dR) (w0 w:World) (hok:Ok w0 w) :
  Calls Tryz.prog 207 #[cv cM cR,cv dM dR,.bool ex] w fun e w'=>e=.returned (cv (mulC cM cR dM dR ex).1 (mulC cM cR dM dR ex).2)/\Ok w0 w':=by
 have hle:=hok.le
 rw [mul_is ex h2 h4 h0 hc hd]
 have HU:Hid _:=And.intro h1 (And.intro h2 (And.intro h3 h4))
 have HC:Hid _:=And.intro hc hd
 have HP:Hid _:=byG_pos (mulG_pos h2 h4 h0 hc hd) ex
 obtain ⟨G,hG⟩:∃ G,G=mulG cM cR dM dR:=⟨_,rfl⟩
 rw [<-hG] at HP ⊢
 have HM:Hid (U64 (byG G ex)):=by
  unfold Hid byG;split
  ·rename_i h;exact h.2
  ·exact twoN_u64 G
 obtain ⟨m,hm⟩:∃ m,m=byG G ex:=⟨_,rfl⟩
 rw [<-hm] at HP HM ⊢
 obtain ⟨x,hx⟩:∃ x,x=restL cM cR m:=⟨_,rfl⟩
 obtain ⟨y,hy⟩:∃ y,y=restL dM dR m:=⟨_,rfl⟩
 have HX:Hid _:=And.intro hx hy
 have HXU:Hid (U64 x/\U64 y):=by rw [hx,hy];exact ⟨restL_u64 h2 HM.out (Or.inr HP.out),restL_u64 h4 HM.out (Or.inr HP.out)⟩
 rw [<-hx,<-hy]
 obtain ⟨r,hr0⟩:∃ r,r=x*y%m:=⟨_,rfl⟩
 rw [<-hr0]
 have HG:Hid _:=And.intro hG (And.intro hm hr0)
 have HZ:Hid (bitsN 0=0):=rfl
 clear hG hm hx hy hr0
 have d1:decide (cM=0)=true:=decide_eq_true hz
 have d2:decide (dM=0)=false:=decide_eq_false (fun h=>h0 ⟨hz,h⟩)
 have m1:¬(dM:Int)=0:=by omega
 have m2:((dM:Int)==0)=false:=by simp;omega
 have m3:¬dM=0:=by omega
 have r1:¬(cR:Int)=0:=by omega
 have r2:((cR:Int)==0)=false:=by simp;omega
 have r3:¬cR=0:=by omega
 clear hz h0 hc hd h1 h2 h3 h4
 unfold cv
 go_enter Tryz.func207,Tryz.ntmps207
 go_wp2_with (first | (go_at_call 149;(first | refine (pisone_ex cM cR _).mono ?_ | refine (pisone_ex dM dR _).mono ?_);rintro e w' ⟨rfl,rfl⟩) | fail)
 obtain ⟨W,hW⟩:∃ W,W=(((((w.alloc (.cells #[.int .u64 (cM:Int),.int .u64 (cR:Int)] 27)).alloc (.cells #[.int .u64 (dM:Int),.int .u64 (dR:Int)] 27)).alloc (.cells #[.int .u64 0,.int .u64 0] 27)).alloc (.cells #[.int .u64 (cM:Int),.int .u64 (cR:Int)] 27)).alloc (.cells #[.int .u64 (dM:Int),.int .u64 (dR:Int)] 27)):=⟨_,rfl⟩
 have ra0:W.heap[w.heap.size]?=some (.cells #[.int .u64 (cM:Int),.int .u64 (cR:Int)] 27):=by rw [hW];exact jj
 have ra1:W.heap[w.heap.size+1]?=some (.cells #[.int .u64 (dM:Int),.int .u64 (dR:Int)] 27):=by rw [hW];exact jj
 have ra2:W.heap[w.heap.size+2]?=some (.cells #[.int .u64 0,.int .u64 0] 27):=by rw [hW];exact jj
 have ra3:W.heap[w.heap.size+3]?=some (.cells #[.int .u64 (cM:Int),.int .u64 (cR:Int)] 27):=by rw [hW];exact jj
 have ra4:W.heap[w.heap.size+4]?=some (.cells #[.int .u64 (dM:Int),.int .u64 (dR:Int)] 27):=by rw [hW];exact jj
 have HW:Hid (Ok w0 W):=by rw [hW];exact (by repeat (first | exact hok | refine Ok.alloc ?_ _ | refine Ok.draws ?_ _ | fail))
 rw [<-hW]
 clear hW hok
 have z0:=lt_row ra0
 have HR0:Hid _:=ra0
 obtain ⟨g00,g01,f00,f01⟩:=row_facts ra0
 have z1:=lt_row ra1
 have HR1:Hid _:=ra1
 obtain ⟨g10,g11,f10,f11⟩:=row_facts ra1
 have z2:=lt_row ra2
 have HR2:Hid _:=ra2
 obtain ⟨g20,g21,f20,f21⟩:=row_facts ra2
 have z3:=lt_row ra3
 have HR3:Hid _:=ra3
 obtain ⟨g30,g31,f30,f31⟩:=row_facts ra3
 have z4:=lt_row ra4
 have HR4:Hid _:=ra4
 obtain ⟨g40,g41,f40,f41⟩:=row_facts ra4
 clear ra0 ra1 ra2 ra3 ra4
 have bz:Ok W W:=Ok.refl _
 go_region_held3 (fun w'=>w'.cell? ⟨w.heap.size,0,none⟩=some (.int .u64 (cM:Int))/\w'.cell? ⟨w.heap.size,1,none⟩=some (.int .u64 (cR:Int))/\w'.cell? ⟨w.heap.size+1,0,none⟩=some (.int .u64 (dM:Int))/\w'.cell? ⟨w.heap.size+1,1,none⟩=some (.int .u64 (dR:Int))) (go_keep)
  (first
  | (go_at_call 123;refine (pconst_any 0 W _ (by repeat (first | assumption | refine Ok.alloc ?_ _ | refine Below.drew ?_))).mono ?_;rintro e w' ⟨rfl,hb⟩;rw [HZ.out];unfold cv;have q00:=Ok.cell hb z0 g00;have q01:=Ok.cell hb z0 g01;have q10:=Ok.cell hb z1 g10;have q11:=Ok.cell hb z1 g11)
  | fail)
 have HB1:Hid (Ok W w'):=hb
 clear hb
 go_wp2_with fail
 refine (pstep_any cM cR dM dR HU.out.1 HU.out.2.1 HU.out.2.2.1 HU.out.2.2.2 HC.out.1 HC.out.2 W _ HB1.out).mono ?_
 rintro e u ⟨rfl,hb2⟩
 rw [<-HG.out.1]
 have HB2:Hid (Ok W u):=hb2
 clear hb2
 unfold bv
 cases ex with
 | true =>
  by_cases hg2:G<18446744073709551616
  ·have hx2:=hg2
   have eG:m=G:=by rw [HG.out.2.1];unfold byG;rw [if_pos ⟨rfl,hg2⟩]
   have gh:hiB G=0:=(big_small hg2).1
   have gl:loB G=(m:Int):=by rw [eG];exact (big_small hg2).2
   rw [gh,gl]
   clear eG gh gl hg2 hx2
   go_wp2_with fail
   obtain ⟨u2,hu2⟩:∃ z,z=u.alloc (.cells #[.int .u64 0,.int .u64 (m:Int)] 173):=⟨_,rfl⟩
   have HV:Hid (Ok W u2):=by rw [hu2];exact HB2.out.alloc _
   rw [<-hu2]
   clear hu2
   have hbv:=HV.out
   have v00:=Ok.cell hbv z0 g00;have v01:=Ok.cell hbv z0 g01;have v10:=Ok.cell hbv z1 g10;have v11:=Ok.cell hbv z1 g11
   have n1:¬w.heap.size+1+1=w.heap.size:=by omega
   have n2:¬w.heap.size+1+1=w.heap.size+1:=by omega
   go_region_held3 (fun w'=>w'.cell? ⟨w.heap.size,0,none⟩=some (.int .u64 (cM:Int))/\w'.cell? ⟨w.heap.size,1,none⟩=some (.int .u64 (cR:Int))/\w'.cell? ⟨w.heap.size+1,0,none⟩=some (.int .u64 (dM:Int))/\w'.cell? ⟨w.heap.size+1,1,none⟩=some (.int .u64 (dR:Int))) (go_keep)
    (first
    | (go_at_call 175;refine (prest_any _ _ m (by first | exact HU.out.1 | exact HU.out.2.2.1) (by first | exact HU.out.2.1 | exact HU.out.2.2.2) HM.out (Or.inr HP.out) W _ (by repeat (first | assumption | refine Ok.alloc ?_ _ | refine Below.drew ?_))).mono ?_;rintro e w' ⟨rfl,hb⟩;(first | rw [<-HX.out.1] | rw [<-HX.out.2]);have q00:=Ok.cell hb z0 g00;have q01:=Ok.cell hb z0 g01;have q10:=Ok.cell hb z1 g10;have q11:=Ok.cell hb z1 g11;obtain ⟨c0,c1,c2,c3⟩:=row_facts (Ok.row' hb HR2.out))
    | (go_at_call 193;refine (ptimes_any x y m HXU.out.1 HXU.out.2 HP.out HM.out W _ (by repeat (first | assumption | refine Ok.alloc ?_ _ | refine Below.drew ?_))).mono ?_;rintro e w' ⟨rfl,hb⟩;rw [<-HG.out.2.2];have q00:=Ok.cell hb z0 g00;have q01:=Ok.cell hb z0 g01;have q10:=Ok.cell hb z1 g10;have q11:=Ok.cell hb z1 g11;obtain ⟨c0,c1,c2,c3⟩:=row_facts (Ok.row' hb HR2.out))
    | fail)
   have hr:Hid _:=Ok.row' hb HR2.out
   have HBB:Hid (Ok w0 w'):=HW.out.step hb
   go_wp2_with fail
   (try simp only [Exit.inBlock, Exit.then]); refine bodyPost_ret (results_cell_row rfl _ _ (w.heap.size+2) 27 #[_, _] (0, 0) _ rfl (row_set2 hr.out _ _) Tryz.underlying27 rfl infoCg) rfl ?_
   exact ⟨rfl,(HBB.out.set (show w0.heap.size<=w.heap.size+2 by omega) _).set (show w0.heap.size<=w.heap.size+2 by omega) _⟩
  ·have eG:Hid (m=twoN G):=by rw [HG.out.2.1];unfold byG Hid;rw [if_neg (by simp;omega)]
   have gh:¬hiB G=0:=by rw [hiB_nat];omega
   have gh2:(hiB G==0)=false:=by simp;exact gh
   have gh3:(hiB G != 0)=true:=by simp;exact gh
   clear hg2
   go_wp2_with fail
   refine (ppower_any G _ _ (Ok.refl _)).mono ?_
   rintro e u2 ⟨rfl,hb3⟩
   rw [<-eG.out]
   have HV:Hid (Ok W u2):=Ok.step (HB2.out.alloc _) hb3
   clear hb3
   go_wp2_with fail
   have hbv:=HV.out
   have v00:=Ok.cell hbv z0 g00;have v01:=Ok.cell hbv z0 g01;have v10:=Ok.cell hbv z1 g10;have v11:=Ok.cell hbv z1 g11
   have n1:¬w.heap.size+1+1=w.heap.size:=by omega
   have n2:¬w.heap.size+1+1=w.heap.size+1:=by omega
   go_region_held3 (fun w'=>w'.cell? ⟨w.heap.size,0,none⟩=some (.int .u64 (cM:Int))/\w'.cell? ⟨w.heap.size,1,none⟩=some (.int .u64 (cR:Int))/\w'.cell? ⟨w.heap.size+1,0,none⟩=some (.int .u64 (dM:Int))/\w'.cell? ⟨w.heap.size+1,1,none⟩=some (.int .u64 (dR:Int))) (go_keep)
    (first
    | (go_at_call 175;refine (prest_any _ _ m (by first | exact HU.out.1 | exact HU.out.2.2.1) (by first | exact HU.out.2.1 | exact HU.out.2.2.2) HM.out (Or.inr HP.out) W _ (by repeat (first | assumption | refine Ok.alloc ?_ _ | refine Below.drew ?_))).mono ?_;rintro e w' ⟨rfl,hb⟩;(first | rw [<-HX.out.1] | rw [<-HX.out.2]);have q00:=Ok.cell hb z0 g00;have q01:=Ok.cell hb z0 g01;have q10:=Ok.cell hb z1 g10;have q11:=Ok.cell hb z1 g11;obtain ⟨c0,c1,c2,c3⟩:=row_facts (Ok.row' hb HR2.out))
    | (go_at_call 193;refine (ptimes_any x y m HXU.out.1 HXU.out.2 HP.out HM.out W _ (by repeat (first | assumption | refine Ok.alloc ?_ _ | refine Below.drew ?_))).mono ?_;rintro e w' ⟨rfl,hb⟩;rw [<-HG.out.2.2];have q00:=Ok.cell hb z0 g00;have q01:=Ok.cell hb z0 g01;have q10:=Ok.cell hb z1 g10;have q11:=Ok.cell hb z1 g11;obtain ⟨c0,c1,c2,c3⟩:=row_facts (Ok.row' hb HR2.out))
    | fail)
   have hr:Hid _:=Ok.row' hb HR2.out
   have HBB:Hid (Ok w0 w'):=HW.out.step hb
   go_wp2_with fail
   (try simp only [Exit.inBlock, Exit.then]); refine bodyPost_ret (results_cell_row rfl _ _ (w.heap.size+2) 27 #[_, _] (0, 0) _ rfl (row_set2 hr.out _ _) Tryz.underlying27 rfl infoCg) rfl ?_
   exact ⟨rfl,(HBB.out.set (show w0.heap.size<=w.heap.size+2 by omega) _).set (show w0.heap.size<=w.heap.size+2 by omega) _⟩
 | false =>
  have eG:Hid (m=twoN G):=by rw [HG.out.2.1];unfold byG Hid;rw [if_neg (by simp)]
  go_wp2_with fail
  refine (ppower_any G _ _ (Ok.refl _)).mono ?_
  rintro e u2 ⟨rfl,hb3⟩
  rw [<-eG.out]
  have HV:Hid (Ok W u2):=Ok.step (HB2.out.alloc _) hb3
  clear hb3
  go_wp2_with fail
  have hbv:=HV.out
  have v00:=Ok.cell hbv z0 g00;have v01:=Ok.cell hbv z0 g01;have v10:=Ok.cell hbv z1 g10;have v11:=Ok.cell hbv z1 g11
  have n1:¬w.heap.size+1+1=w.heap.size:=by omega
  have n2:¬w.heap.size+1+1=w.heap.size+1:=by omega
  go_region_held3 (fun w'=>w'.cell? ⟨w.heap.size,0,none⟩=some (.int .u64 (cM:Int))/\w'.cell? ⟨w.heap.size,1,none⟩=some (.int .u64 (cR:Int))/\w'.cell? ⟨w.heap.size+1,0,none⟩=some (.int .u64 (dM:Int))/\w'.cell? ⟨w.heap.size+1,1,none⟩=some (.int .u64 (dR:Int))) (go_keep)
   (first
   | (go_at_call 175;refine (prest_any _ _ m (by first | exact HU.out.1 | exact HU.out.2.2.1) (by first | exact HU.out.2.1 | exact HU.out.2.2.2) HM.out (Or.inr HP.out) W _ (by repeat (first | assumption | refine Ok.alloc ?_ _ | refine Below.drew ?_))).mono ?_;rintro e w' ⟨rfl,hb⟩;(first | rw [<-HX.out.1] | rw [<-HX.out.2]);have q00:=Ok.cell hb z0 g00;have q01:=Ok.cell hb z0 g01;have q10:=Ok.cell hb z1 g10;have q11:=Ok.cell hb z1 g11;obtain ⟨c0,c1,c2,c3⟩:=row_facts (Ok.row' hb HR2.out))
   | (go_at_call 193;refine (ptimes_any x y m HXU.out.1 HXU.out.2 HP.out HM.out W _ (by repeat (first | assumption | refine Ok.alloc ?_ _ | refine Below.drew ?_))).mono ?_;rintro e w' ⟨rfl,hb⟩;rw [<-HG.out.2.2];have q00:=Ok.cell hb z0 g00;have q01:=Ok.cell hb z0 g01;have q10:=Ok.cell hb z1 g10;have q11:=Ok.cell hb z1 g11;obtain ⟨c0,c1,c2,c3⟩:=row_facts (Ok.row' hb HR2.out))
   | fail)
  have hr:Hid _:=Ok.row' hb HR2.out
  have HBB:Hid (Ok w0 w'):=HW.out.step hb
  go_wp2_with fail
  (try simp only [Exit.inBlock, Exit.then]); refine bodyPost_ret (results_cell_row rfl _ _ (w.heap.size+2) 27 #[_, _] (0, 0) _ rfl (row_set2 hr.out _ _) Tryz.underlying27 rfl infoCg) rfl ?_
  exact ⟨rfl,(HBB.out.set (show w0.heap.size<=w.heap.size+2 by omega) _).set (show w0.heap.size<=w.heap.size+2 by omega) _⟩
end Go.Proofs.YtnjmjnmhldhaoaaGreat
namespace Go.Proofs.YtnjmjnmhldhaoaaGreat
open Go.RowKit
set_option maxRecDepth 100000 in
theorem pmul_c (cM cR:Nat) (ex:Bool) (hz:cM≠0) (w0 w:World) (hok:Ok w0 w) :
  Calls Tryz.prog 207 #[cv cM cR,cv 0 0,.bool ex] w fun e w'=>e=.returned (cv (mulC cM cR 0 0 ex).1 (mulC cM cR 0 0 ex).2)/\Ok w0 w':=by
 have hle:=hok.le
 rw [show mulC cM cR 0 0 ex=(0,0) by unfold mulC;rw [if_neg (by omega),if_pos (Or.inr ⟨rfl,rfl⟩)]]
 have d1:decide (cM=0)=false:=decide_eq_false hz
 have m1:¬(cM:Int)=0:=by omega
 have m2:((cM:Int)==0)=false:=by simp;omega
 have m3:¬cM=0:=by omega
 have HZ:Hid (bitsN 0=0):=rfl
 clear hz
 unfold cv
 go_enter Tryz.func207,Tryz.ntmps207
 go_wp2_with (first | (go_at_call 149;refine (pisone_ex cM cR _).mono ?_;rintro e w' ⟨rfl,rfl⟩) | fail)
 obtain ⟨W,hW⟩:∃ W,W=((((w.alloc (.cells #[.int .u64 (cM:Int),.int .u64 (cR:Int)] 27)).alloc (.cells #[.int .u64 0,.int .u64 0] 27)).alloc (.cells #[.int .u64 0,.int .u64 0] 27)).alloc (.cells #[.int .u64 (cM:Int),.int .u64 (cR:Int)] 27)):=⟨_,rfl⟩
 have ra0:W.heap[w.heap.size]?=some (.cells #[.int .u64 (cM:Int),.int .u64 (cR:Int)] 27):=by rw [hW];exact jj
 have ra1:W.heap[w.heap.size+1]?=some (.cells #[.int .u64 0,.int .u64 0] 27):=by rw [hW];exact jj
 have ra2:W.heap[w.heap.size+2]?=some (.cells #[.int .u64 0,.int .u64 0] 27):=by rw [hW];exact jj
 have ra3:W.heap[w.heap.size+3]?=some (.cells #[.int .u64 (cM:Int),.int .u64 (cR:Int)] 27):=by rw [hW];exact jj
 have HW:Hid (Ok w0 W):=by rw [hW];exact (by repeat (first | exact hok | refine Ok.alloc ?_ _ | refine Ok.draws ?_ _ | fail))
 rw [<-hW]
 clear hW hok
 have z0:=lt_row ra0
 have HR0:Hid _:=ra0
 obtain ⟨g00,g01,f00,f01⟩:=row_facts ra0
 have z1:=lt_row ra1
 have HR1:Hid _:=ra1
 obtain ⟨g10,g11,f10,f11⟩:=row_facts ra1
 have z2:=lt_row ra2
 have HR2:Hid _:=ra2
 obtain ⟨g20,g21,f20,f21⟩:=row_facts ra2
 have z3:=lt_row ra3
 have HR3:Hid _:=ra3
 obtain ⟨g30,g31,f30,f31⟩:=row_facts ra3
 clear ra0 ra1 ra2 ra3
 have bz:Ok W W:=Ok.refl _
 go_region_held3 (fun w'=>w'.cell? ⟨w.heap.size,0,none⟩=some (.int .u64 (cM:Int))/\w'.cell? ⟨w.heap.size,1,none⟩=some (.int .u64 (cR:Int))/\w'.cell? ⟨w.heap.size+1,0,none⟩=some (.int .u64 0)/\w'.cell? ⟨w.heap.size+1,1,none⟩=some (.int .u64 0)) (go_keep)
  (first
  | (go_at_call 123;refine (pconst_any 0 W _ (by repeat (first | assumption | refine Ok.alloc ?_ _ | refine Below.drew ?_))).mono ?_;rintro e w' ⟨rfl,hb⟩;rw [HZ.out];unfold cv;have q00:=Ok.cell hb z0 g00;have q01:=Ok.cell hb z0 g01;have q10:=Ok.cell hb z1 g10;have q11:=Ok.cell hb z1 g11)
  | fail)
 have HB1:Hid (Ok W w'):=hb
 clear hb
 go_wp2_with fail
 refine (pconst_any 0 W _ HB1.out).mono ?_
 rintro e u ⟨rfl,hb⟩
 rw [HZ.out]
 have hr:Hid _:=Ok.row' hb HR2.out
 obtain ⟨k0,k1,k2,k3⟩:=row_facts hr.out
 have HB2:Hid (Ok w0 u):=HW.out.step hb
 unfold cv
 go_wp2_with fail
 (try simp only [Exit.inBlock, Exit.then]); refine bodyPost_ret (results_cell_row rfl _ _ (w.heap.size+2) 27 #[_, _] (0, 0) _ rfl (row_set2 hr.out _ _) Tryz.underlying27 rfl infoCg) rfl ?_
 exact ⟨rfl,(HB2.out.set (show w0.heap.size<=w.heap.size+2 by omega) _).set (show w0.heap.size<=w.heap.size+2 by omega) _⟩
set_option maxRecDepth 100000 in
theorem pmul_d (cM cR dM dR:Nat) (ex:Bool) (hz:cM≠0) (h0:¬(cM=0/\dM=0)) (hc:¬(cM=0/\cR=0)) (hd:¬(dM=0/\dR=0)) (h1:U64 cM) (h2:U64 cR) (h3:U64 dM) (h4:U64 dR) (w0 w:World) (hok:Ok w0 w) :
  Calls Tryz.prog 207 #[cv cM cR,cv dM dR,.bool ex] w fun e w'=>e=.returned (cv (mulC cM cR dM dR ex).1 (mulC cM cR dM dR ex).2)/\Ok w0 w':=by
 have hle:=hok.le
 rw [mul_is ex h2 h4 h0 hc hd]
 have HU:Hid _:=And.intro h1 (And.intro h2 (And.intro h3 h4))
 have HC:Hid _:=And.intro hc hd
 have HP:Hid _:=byG_pos (mulG_pos h2 h4 h0 hc hd) ex
 obtain ⟨G,hG⟩:∃ G,G=mulG cM cR dM dR:=⟨_,rfl⟩
 rw [<-hG] at HP ⊢
 have HM:Hid (U64 (byG G ex)):=by
  unfold Hid byG;split
  ·rename_i h;exact h.2
  ·exact twoN_u64 G
 obtain ⟨m,hm⟩:∃ m,m=byG G ex:=⟨_,rfl⟩
 rw [<-hm] at HP HM ⊢
 obtain ⟨x,hx⟩:∃ x,x=restL cM cR m:=⟨_,rfl⟩
 obtain ⟨y,hy⟩:∃ y,y=restL dM dR m:=⟨_,rfl⟩
 have HX:Hid _:=And.intro hx hy
 have HXU:Hid (U64 x/\U64 y):=by rw [hx,hy];exact ⟨restL_u64 h2 HM.out (Or.inr HP.out),restL_u64 h4 HM.out (Or.inr HP.out)⟩
 rw [<-hx,<-hy]
 obtain ⟨r,hr0⟩:∃ r,r=x*y%m:=⟨_,rfl⟩
 rw [<-hr0]
 have HG:Hid _:=And.intro hG (And.intro hm hr0)
 have HZ:Hid (bitsN 0=0):=rfl
 clear hG hm hx hy hr0
 have d1:decide (cM=0)=false:=decide_eq_false hz
 have m1:¬(cM:Int)=0:=by omega
 have m2:((cM:Int)==0)=false:=by simp;omega
 have m3:¬cM=0:=by omega
 by_cases hy:dM=0
 ·have r1:¬(dR:Int)=0:=by omega
  have r2:((dR:Int)==0)=false:=by simp;omega
  have r3:¬dR=0:=by omega
  clear hz h0 hc hd h1 h2 h3 h4 hy
  unfold cv
  go_enter Tryz.func207,Tryz.ntmps207
  go_wp2_with (first | (go_at_call 149;refine (pisone_ex cM cR _).mono ?_;rintro e w' ⟨rfl,rfl⟩) | fail)
  obtain ⟨W,hW⟩:∃ W,W=((((w.alloc (.cells #[.int .u64 (cM:Int),.int .u64 (cR:Int)] 27)).alloc (.cells #[.int .u64 (dM:Int),.int .u64 (dR:Int)] 27)).alloc (.cells #[.int .u64 0,.int .u64 0] 27)).alloc (.cells #[.int .u64 (cM:Int),.int .u64 (cR:Int)] 27)):=⟨_,rfl⟩
  have ra0:W.heap[w.heap.size]?=some (.cells #[.int .u64 (cM:Int),.int .u64 (cR:Int)] 27):=by rw [hW];exact jj
  have ra1:W.heap[w.heap.size+1]?=some (.cells #[.int .u64 (dM:Int),.int .u64 (dR:Int)] 27):=by rw [hW];exact jj
  have ra2:W.heap[w.heap.size+2]?=some (.cells #[.int .u64 0,.int .u64 0] 27):=by rw [hW];exact jj
  have ra3:W.heap[w.heap.size+3]?=some (.cells #[.int .u64 (cM:Int),.int .u64 (cR:Int)] 27):=by rw [hW];exact jj
  have HW:Hid (Ok w0 W):=by rw [hW];exact (by repeat (first | exact hok | refine Ok.alloc ?_ _ | refine Ok.draws ?_ _ | fail))
  rw [<-hW]
  clear hW hok
  have z0:=lt_row ra0
  have HR0:Hid _:=ra0
  obtain ⟨g00,g01,f00,f01⟩:=row_facts ra0
  have z1:=lt_row ra1
  have HR1:Hid _:=ra1
  obtain ⟨g10,g11,f10,f11⟩:=row_facts ra1
  have z2:=lt_row ra2
  have HR2:Hid _:=ra2
  obtain ⟨g20,g21,f20,f21⟩:=row_facts ra2
  have z3:=lt_row ra3
  have HR3:Hid _:=ra3
  obtain ⟨g30,g31,f30,f31⟩:=row_facts ra3
  clear ra0 ra1 ra2 ra3
  have bz:Ok W W:=Ok.refl _
  go_region_held3 (fun w'=>w'.cell? ⟨w.heap.size,0,none⟩=some (.int .u64 (cM:Int))/\w'.cell? ⟨w.heap.size,1,none⟩=some (.int .u64 (cR:Int))/\w'.cell? ⟨w.heap.size+1,0,none⟩=some (.int .u64 (dM:Int))/\w'.cell? ⟨w.heap.size+1,1,none⟩=some (.int .u64 (dR:Int))) (go_keep)
   (first
   | (go_at_call 123;refine (pconst_any 0 W _ (by repeat (first | assumption | refine Ok.alloc ?_ _ | refine Below.drew ?_))).mono ?_;rintro e w' ⟨rfl,hb⟩;rw [HZ.out];unfold cv;have q00:=Ok.cell hb z0 g00;have q01:=Ok.cell hb z0 g01;have q10:=Ok.cell hb z1 g10;have q11:=Ok.cell hb z1 g11)
   | fail)
  have HB1:Hid (Ok W w'):=hb
  clear hb
  go_wp2_with fail
  refine (pstep_any cM cR dM dR HU.out.1 HU.out.2.1 HU.out.2.2.1 HU.out.2.2.2 HC.out.1 HC.out.2 W _ HB1.out).mono ?_
  rintro e u ⟨rfl,hb2⟩
  rw [<-HG.out.1]
  have HB2:Hid (Ok W u):=hb2
  clear hb2
  unfold bv
  cases ex with
  | true =>
   by_cases hg2:G<18446744073709551616
   ·have hx2:=hg2
    have eG:m=G:=by rw [HG.out.2.1];unfold byG;rw [if_pos ⟨rfl,hg2⟩]
    have gh:hiB G=0:=(big_small hg2).1
    have gl:loB G=(m:Int):=by rw [eG];exact (big_small hg2).2
    rw [gh,gl]
    clear eG gh gl hg2 hx2
    go_wp2_with fail
    obtain ⟨u2,hu2⟩:∃ z,z=u.alloc (.cells #[.int .u64 0,.int .u64 (m:Int)] 173):=⟨_,rfl⟩
    have HV:Hid (Ok W u2):=by rw [hu2];exact HB2.out.alloc _
    rw [<-hu2]
    clear hu2
    have hbv:=HV.out
    have v00:=Ok.cell hbv z0 g00;have v01:=Ok.cell hbv z0 g01;have v10:=Ok.cell hbv z1 g10;have v11:=Ok.cell hbv z1 g11
    have n1:¬w.heap.size+1+1=w.heap.size:=by omega
    have n2:¬w.heap.size+1+1=w.heap.size+1:=by omega
    go_region_held3 (fun w'=>w'.cell? ⟨w.heap.size,0,none⟩=some (.int .u64 (cM:Int))/\w'.cell? ⟨w.heap.size,1,none⟩=some (.int .u64 (cR:Int))/\w'.cell? ⟨w.heap.size+1,0,none⟩=some (.int .u64 (dM:Int))/\w'.cell? ⟨w.heap.size+1,1,none⟩=some (.int .u64 (dR:Int))) (go_keep)
     (first
     | (go_at_call 175;refine (prest_any _ _ m (by first | exact HU.out.1 | exact HU.out.2.2.1) (by first | exact HU.out.2.1 | exact HU.out.2.2.2) HM.out (Or.inr HP.out) W _ (by repeat (first | assumption | refine Ok.alloc ?_ _ | refine Below.drew ?_))).mono ?_;rintro e w' ⟨rfl,hb⟩;(first | rw [<-HX.out.1] | rw [<-HX.out.2]);have q00:=Ok.cell hb z0 g00;have q01:=Ok.cell hb z0 g01;have q10:=Ok.cell hb z1 g10;have q11:=Ok.cell hb z1 g11;obtain ⟨c0,c1,c2,c3⟩:=row_facts (Ok.row' hb HR2.out))
     | (go_at_call 193;refine (ptimes_any x y m HXU.out.1 HXU.out.2 HP.out HM.out W _ (by repeat (first | assumption | refine Ok.alloc ?_ _ | refine Below.drew ?_))).mono ?_;rintro e w' ⟨rfl,hb⟩;rw [<-HG.out.2.2];have q00:=Ok.cell hb z0 g00;have q01:=Ok.cell hb z0 g01;have q10:=Ok.cell hb z1 g10;have q11:=Ok.cell hb z1 g11;obtain ⟨c0,c1,c2,c3⟩:=row_facts (Ok.row' hb HR2.out))
     | fail)
    have hr:Hid _:=Ok.row' hb HR2.out
    have HBB:Hid (Ok w0 w'):=HW.out.step hb
    go_wp2_with fail
    (try simp only [Exit.inBlock, Exit.then]); refine bodyPost_ret (results_cell_row rfl _ _ (w.heap.size+2) 27 #[_, _] (0, 0) _ rfl (row_set2 hr.out _ _) Tryz.underlying27 rfl infoCg) rfl ?_
    exact ⟨rfl,(HBB.out.set (show w0.heap.size<=w.heap.size+2 by omega) _).set (show w0.heap.size<=w.heap.size+2 by omega) _⟩
   ·have eG:Hid (m=twoN G):=by rw [HG.out.2.1];unfold byG Hid;rw [if_neg (by simp;omega)]
    have gh:¬hiB G=0:=by rw [hiB_nat];omega
    have gh2:(hiB G==0)=false:=by simp;exact gh
    have gh3:(hiB G != 0)=true:=by simp;exact gh
    clear hg2
    go_wp2_with fail
    refine (ppower_any G _ _ (Ok.refl _)).mono ?_
    rintro e u2 ⟨rfl,hb3⟩
    rw [<-eG.out]
    have HV:Hid (Ok W u2):=Ok.step (HB2.out.alloc _) hb3
    clear hb3
    go_wp2_with fail
    have hbv:=HV.out
    have v00:=Ok.cell hbv z0 g00;have v01:=Ok.cell hbv z0 g01;have v10:=Ok.cell hbv z1 g10;have v11:=Ok.cell hbv z1 g11
    have n1:¬w.heap.size+1+1=w.heap.size:=by omega
    have n2:¬w.heap.size+1+1=w.heap.size+1:=by omega
    go_region_held3 (fun w'=>w'.cell? ⟨w.heap.size,0,none⟩=some (.int .u64 (cM:Int))/\w'.cell? ⟨w.heap.size,1,none⟩=some (.int .u64 (cR:Int))/\w'.cell? ⟨w.heap.size+1,0,none⟩=some (.int .u64 (dM:Int))/\w'.cell? ⟨w.heap.size+1,1,none⟩=some (.int .u64 (dR:Int))) (go_keep)
     (first
     | (go_at_call 175;refine (prest_any _ _ m (by first | exact HU.out.1 | exact HU.out.2.2.1) (by first | exact HU.out.2.1 | exact HU.out.2.2.2) HM.out (Or.inr HP.out) W _ (by repeat (first | assumption | refine Ok.alloc ?_ _ | refine Below.drew ?_))).mono ?_;rintro e w' ⟨rfl,hb⟩;(first | rw [<-HX.out.1] | rw [<-HX.out.2]);have q00:=Ok.cell hb z0 g00;have q01:=Ok.cell hb z0 g01;have q10:=Ok.cell hb z1 g10;have q11:=Ok.cell hb z1 g11;obtain ⟨c0,c1,c2,c3⟩:=row_facts (Ok.row' hb HR2.out))
     | (go_at_call 193;refine (ptimes_any x y m HXU.out.1 HXU.out.2 HP.out HM.out W _ (by repeat (first | assumption | refine Ok.alloc ?_ _ | refine Below.drew ?_))).mono ?_;rintro e w' ⟨rfl,hb⟩;rw [<-HG.out.2.2];have q00:=Ok.cell hb z0 g00;have q01:=Ok.cell hb z0 g01;have q10:=Ok.cell hb z1 g10;have q11:=Ok.cell hb z1 g11;obtain ⟨c0,c1,c2,c3⟩:=row_facts (Ok.row' hb HR2.out))
     | fail)
    have hr:Hid _:=Ok.row' hb HR2.out
    have HBB:Hid (Ok w0 w'):=HW.out.step hb
    go_wp2_with fail
    (try simp only [Exit.inBlock, Exit.then]); refine bodyPost_ret (results_cell_row rfl _ _ (w.heap.size+2) 27 #[_, _] (0, 0) _ rfl (row_set2 hr.out _ _) Tryz.underlying27 rfl infoCg) rfl ?_
    exact ⟨rfl,(HBB.out.set (show w0.heap.size<=w.heap.size+2 by omega) _).set (show w0.heap.size<=w.heap.size+2 by omega) _⟩
  | false =>
   have eG:Hid (m=twoN G):=by rw [HG.out.2.1];unfold byG Hid;rw [if_neg (by simp)]
   go_wp2_with fail
   refine (ppower_any G _ _ (Ok.refl _)).mono ?_
   rintro e u2 ⟨rfl,hb3⟩
   rw [<-eG.out]
   have HV:Hid (Ok W u2):=Ok.step (HB2.out.alloc _) hb3
   clear hb3
   go_wp2_with fail
   have hbv:=HV.out
   have v00:=Ok.cell hbv z0 g00;have v01:=Ok.cell hbv z0 g01;have v10:=Ok.cell hbv z1 g10;have v11:=Ok.cell hbv z1 g11
   have n1:¬w.heap.size+1+1=w.heap.size:=by omega
   have n2:¬w.heap.size+1+1=w.heap.size+1:=by omega
   go_region_held3 (fun w'=>w'.cell? ⟨w.heap.size,0,none⟩=some (.int .u64 (cM:Int))/\w'.cell? ⟨w.heap.size,1,none⟩=some (.int .u64 (cR:Int))/\w'.cell? ⟨w.heap.size+1,0,none⟩=some (.int .u64 (dM:Int))/\w'.cell? ⟨w.heap.size+1,1,none⟩=some (.int .u64 (dR:Int))) (go_keep)
    (first
    | (go_at_call 175;refine (prest_any _ _ m (by first | exact HU.out.1 | exact HU.out.2.2.1) (by first | exact HU.out.2.1 | exact HU.out.2.2.2) HM.out (Or.inr HP.out) W _ (by repeat (first | assumption | refine Ok.alloc ?_ _ | refine Below.drew ?_))).mono ?_;rintro e w' ⟨rfl,hb⟩;(first | rw [<-HX.out.1] | rw [<-HX.out.2]);have q00:=Ok.cell hb z0 g00;have q01:=Ok.cell hb z0 g01;have q10:=Ok.cell hb z1 g10;have q11:=Ok.cell hb z1 g11;obtain ⟨c0,c1,c2,c3⟩:=row_facts (Ok.row' hb HR2.out))
    | (go_at_call 193;refine (ptimes_any x y m HXU.out.1 HXU.out.2 HP.out HM.out W _ (by repeat (first | assumption | refine Ok.alloc ?_ _ | refine Below.drew ?_))).mono ?_;rintro e w' ⟨rfl,hb⟩;rw [<-HG.out.2.2];have q00:=Ok.cell hb z0 g00;have q01:=Ok.cell hb z0 g01;have q10:=Ok.cell hb z1 g10;have q11:=Ok.cell hb z1 g11;obtain ⟨c0,c1,c2,c3⟩:=row_facts (Ok.row' hb HR2.out))
    | fail)
   have hr:Hid _:=Ok.row' hb HR2.out
   have HBB:Hid (Ok w0 w'):=HW.out.step hb
   go_wp2_with fail
   (try simp only [Exit.inBlock, Exit.then]); refine bodyPost_ret (results_cell_row rfl _ _ (w.heap.size+2) 27 #[_, _] (0, 0) _ rfl (row_set2 hr.out _ _) Tryz.underlying27 rfl infoCg) rfl ?_
   exact ⟨rfl,(HBB.out.set (show w0.heap.size<=w.heap.size+2 by omega) _).set (show w0.heap.size<=w.heap.size+2 by omega) _⟩
 ·have r1:¬(dM:Int)=0:=by omega
  have r2:((dM:Int)==0)=false:=by simp;omega
  have r3:¬dM=0:=by omega
  clear hz h0 hc hd h1 h2 h3 h4 hy
  unfold cv
  go_enter Tryz.func207,Tryz.ntmps207
  go_wp2_with (first | (go_at_call 149;refine (pisone_ex cM cR _).mono ?_;rintro e w' ⟨rfl,rfl⟩) | fail)
  obtain ⟨W,hW⟩:∃ W,W=((((w.alloc (.cells #[.int .u64 (cM:Int),.int .u64 (cR:Int)] 27)).alloc (.cells #[.int .u64 (dM:Int),.int .u64 (dR:Int)] 27)).alloc (.cells #[.int .u64 0,.int .u64 0] 27)).alloc (.cells #[.int .u64 (cM:Int),.int .u64 (cR:Int)] 27)):=⟨_,rfl⟩
  have ra0:W.heap[w.heap.size]?=some (.cells #[.int .u64 (cM:Int),.int .u64 (cR:Int)] 27):=by rw [hW];exact jj
  have ra1:W.heap[w.heap.size+1]?=some (.cells #[.int .u64 (dM:Int),.int .u64 (dR:Int)] 27):=by rw [hW];exact jj
  have ra2:W.heap[w.heap.size+2]?=some (.cells #[.int .u64 0,.int .u64 0] 27):=by rw [hW];exact jj
  have ra3:W.heap[w.heap.size+3]?=some (.cells #[.int .u64 (cM:Int),.int .u64 (cR:Int)] 27):=by rw [hW];exact jj
  have HW:Hid (Ok w0 W):=by rw [hW];exact (by repeat (first | exact hok | refine Ok.alloc ?_ _ | refine Ok.draws ?_ _ | fail))
  rw [<-hW]
  clear hW hok
  have z0:=lt_row ra0
  have HR0:Hid _:=ra0
  obtain ⟨g00,g01,f00,f01⟩:=row_facts ra0
  have z1:=lt_row ra1
  have HR1:Hid _:=ra1
  obtain ⟨g10,g11,f10,f11⟩:=row_facts ra1
  have z2:=lt_row ra2
  have HR2:Hid _:=ra2
  obtain ⟨g20,g21,f20,f21⟩:=row_facts ra2
  have z3:=lt_row ra3
  have HR3:Hid _:=ra3
  obtain ⟨g30,g31,f30,f31⟩:=row_facts ra3
  clear ra0 ra1 ra2 ra3
  have bz:Ok W W:=Ok.refl _
  go_region_held3 (fun w'=>w'.cell? ⟨w.heap.size,0,none⟩=some (.int .u64 (cM:Int))/\w'.cell? ⟨w.heap.size,1,none⟩=some (.int .u64 (cR:Int))/\w'.cell? ⟨w.heap.size+1,0,none⟩=some (.int .u64 (dM:Int))/\w'.cell? ⟨w.heap.size+1,1,none⟩=some (.int .u64 (dR:Int))) (go_keep)
   (first
   | (go_at_call 123;refine (pconst_any 0 W _ (by repeat (first | assumption | refine Ok.alloc ?_ _ | refine Below.drew ?_))).mono ?_;rintro e w' ⟨rfl,hb⟩;rw [HZ.out];unfold cv;have q00:=Ok.cell hb z0 g00;have q01:=Ok.cell hb z0 g01;have q10:=Ok.cell hb z1 g10;have q11:=Ok.cell hb z1 g11)
   | fail)
  have HB1:Hid (Ok W w'):=hb
  clear hb
  go_wp2_with fail
  refine (pstep_any cM cR dM dR HU.out.1 HU.out.2.1 HU.out.2.2.1 HU.out.2.2.2 HC.out.1 HC.out.2 W _ HB1.out).mono ?_
  rintro e u ⟨rfl,hb2⟩
  rw [<-HG.out.1]
  have HB2:Hid (Ok W u):=hb2
  clear hb2
  unfold bv
  cases ex with
  | true =>
   by_cases hg2:G<18446744073709551616
   ·have hx2:=hg2
    have eG:m=G:=by rw [HG.out.2.1];unfold byG;rw [if_pos ⟨rfl,hg2⟩]
    have gh:hiB G=0:=(big_small hg2).1
    have gl:loB G=(m:Int):=by rw [eG];exact (big_small hg2).2
    rw [gh,gl]
    clear eG gh gl hg2 hx2
    go_wp2_with fail
    obtain ⟨u2,hu2⟩:∃ z,z=u.alloc (.cells #[.int .u64 0,.int .u64 (m:Int)] 173):=⟨_,rfl⟩
    have HV:Hid (Ok W u2):=by rw [hu2];exact HB2.out.alloc _
    rw [<-hu2]
    clear hu2
    have hbv:=HV.out
    have v00:=Ok.cell hbv z0 g00;have v01:=Ok.cell hbv z0 g01;have v10:=Ok.cell hbv z1 g10;have v11:=Ok.cell hbv z1 g11
    have n1:¬w.heap.size+1+1=w.heap.size:=by omega
    have n2:¬w.heap.size+1+1=w.heap.size+1:=by omega
    go_region_held3 (fun w'=>w'.cell? ⟨w.heap.size,0,none⟩=some (.int .u64 (cM:Int))/\w'.cell? ⟨w.heap.size,1,none⟩=some (.int .u64 (cR:Int))/\w'.cell? ⟨w.heap.size+1,0,none⟩=some (.int .u64 (dM:Int))/\w'.cell? ⟨w.heap.size+1,1,none⟩=some (.int .u64 (dR:Int))) (go_keep)
     (first
     | (go_at_call 175;refine (prest_any _ _ m (by first | exact HU.out.1 | exact HU.out.2.2.1) (by first | exact HU.out.2.1 | exact HU.out.2.2.2) HM.out (Or.inr HP.out) W _ (by repeat (first | assumption | refine Ok.alloc ?_ _ | refine Below.drew ?_))).mono ?_;rintro e w' ⟨rfl,hb⟩;(first | rw [<-HX.out.1] | rw [<-HX.out.2]);have q00:=Ok.cell hb z0 g00;have q01:=Ok.cell hb z0 g01;have q10:=Ok.cell hb z1 g10;have q11:=Ok.cell hb z1 g11;obtain ⟨c0,c1,c2,c3⟩:=row_facts (Ok.row' hb HR2.out))
     | (go_at_call 193;refine (ptimes_any x y m HXU.out.1 HXU.out.2 HP.out HM.out W _ (by repeat (first | assumption | refine Ok.alloc ?_ _ | refine Below.drew ?_))).mono ?_;rintro e w' ⟨rfl,hb⟩;rw [<-HG.out.2.2];have q00:=Ok.cell hb z0 g00;have q01:=Ok.cell hb z0 g01;have q10:=Ok.cell hb z1 g10;have q11:=Ok.cell hb z1 g11;obtain ⟨c0,c1,c2,c3⟩:=row_facts (Ok.row' hb HR2.out))
     | fail)
    have hr:Hid _:=Ok.row' hb HR2.out
    have HBB:Hid (Ok w0 w'):=HW.out.step hb
    go_wp2_with fail
    (try simp only [Exit.inBlock, Exit.then]); refine bodyPost_ret (results_cell_row rfl _ _ (w.heap.size+2) 27 #[_, _] (0, 0) _ rfl (row_set2 hr.out _ _) Tryz.underlying27 rfl infoCg) rfl ?_
    exact ⟨rfl,(HBB.out.set (show w0.heap.size<=w.heap.size+2 by omega) _).set (show w0.heap.size<=w.heap.size+2 by omega) _⟩
   ·have eG:Hid (m=twoN G):=by rw [HG.out.2.1];unfold byG Hid;rw [if_neg (by simp;omega)]
    have gh:¬hiB G=0:=by rw [hiB_nat];omega
    have gh2:(hiB G==0)=false:=by simp;exact gh
    have gh3:(hiB G != 0)=true:=by simp;exact gh
    clear hg2
    go_wp2_with fail
    refine (ppower_any G _ _ (Ok.refl _)).mono ?_
    rintro e u2 ⟨rfl,hb3⟩
    rw [<-eG.out]
    have HV:Hid (Ok W u2):=Ok.step (HB2.out.alloc _) hb3
    clear hb3
    go_wp2_with fail
    have hbv:=HV.out
    have v00:=Ok.cell hbv z0 g00;have v01:=Ok.cell hbv z0 g01;have v10:=Ok.cell hbv z1 g10;have v11:=Ok.cell hbv z1 g11
    have n1:¬w.heap.size+1+1=w.heap.size:=by omega
    have n2:¬w.heap.size+1+1=w.heap.size+1:=by omega
    go_region_held3 (fun w'=>w'.cell? ⟨w.heap.size,0,none⟩=some (.int .u64 (cM:Int))/\w'.cell? ⟨w.heap.size,1,none⟩=some (.int .u64 (cR:Int))/\w'.cell? ⟨w.heap.size+1,0,none⟩=some (.int .u64 (dM:Int))/\w'.cell? ⟨w.heap.size+1,1,none⟩=some (.int .u64 (dR:Int))) (go_keep)
     (first
     | (go_at_call 175;refine (prest_any _ _ m (by first | exact HU.out.1 | exact HU.out.2.2.1) (by first | exact HU.out.2.1 | exact HU.out.2.2.2) HM.out (Or.inr HP.out) W _ (by repeat (first | assumption | refine Ok.alloc ?_ _ | refine Below.drew ?_))).mono ?_;rintro e w' ⟨rfl,hb⟩;(first | rw [<-HX.out.1] | rw [<-HX.out.2]);have q00:=Ok.cell hb z0 g00;have q01:=Ok.cell hb z0 g01;have q10:=Ok.cell hb z1 g10;have q11:=Ok.cell hb z1 g11;obtain ⟨c0,c1,c2,c3⟩:=row_facts (Ok.row' hb HR2.out))
     | (go_at_call 193;refine (ptimes_any x y m HXU.out.1 HXU.out.2 HP.out HM.out W _ (by repeat (first | assumption | refine Ok.alloc ?_ _ | refine Below.drew ?_))).mono ?_;rintro e w' ⟨rfl,hb⟩;rw [<-HG.out.2.2];have q00:=Ok.cell hb z0 g00;have q01:=Ok.cell hb z0 g01;have q10:=Ok.cell hb z1 g10;have q11:=Ok.cell hb z1 g11;obtain ⟨c0,c1,c2,c3⟩:=row_facts (Ok.row' hb HR2.out))
     | fail)
    have hr:Hid _:=Ok.row' hb HR2.out
    have HBB:Hid (Ok w0 w'):=HW.out.step hb
    go_wp2_with fail
    (try simp only [Exit.inBlock, Exit.then]); refine bodyPost_ret (results_cell_row rfl _ _ (w.heap.size+2) 27 #[_, _] (0, 0) _ rfl (row_set2 hr.out _ _) Tryz.underlying27 rfl infoCg) rfl ?_
    exact ⟨rfl,(HBB.out.set (show w0.heap.size<=w.heap.size+2 by omega) _).set (show w0.heap.size<=w.heap.size+2 by omega) _⟩
  | false =>
   have eG:Hid (m=twoN G):=by rw [HG.out.2.1];unfold byG Hid;rw [if_neg (by simp)]
   go_wp2_with fail
   refine (ppower_any G _ _ (Ok.refl _)).mono ?_
   rintro e u2 ⟨rfl,hb3⟩
   rw [<-eG.out]
   have HV:Hid (Ok W u2):=Ok.step (HB2.out.alloc _) hb3
   clear hb3
   go_wp2_with fail
   have hbv:=HV.out
   have v00:=Ok.cell hbv z0 g00;have v01:=Ok.cell hbv z0 g01;have v10:=Ok.cell hbv z1 g10;have v11:=Ok.cell hbv z1 g11
   have n1:¬w.heap.size+1+1=w.heap.size:=by omega
   have n2:¬w.heap.size+1+1=w.heap.size+1:=by omega
   go_region_held3 (fun w'=>w'.cell? ⟨w.heap.size,0,none⟩=some (.int .u64 (cM:Int))/\w'.cell? ⟨w.heap.size,1,none⟩=some (.int .u64 (cR:Int))/\w'.cell? ⟨w.heap.size+1,0,none⟩=some (.int .u64 (dM:Int))/\w'.cell? ⟨w.heap.size+1,1,none⟩=some (.int .u64 (dR:Int))) (go_keep)
    (first
    | (go_at_call 175;refine (prest_any _ _ m (by first | exact HU.out.1 | exact HU.out.2.2.1) (by first | exact HU.out.2.1 | exact HU.out.2.2.2) HM.out (Or.inr HP.out) W _ (by repeat (first | assumption | refine Ok.alloc ?_ _ | refine Below.drew ?_))).mono ?_;rintro e w' ⟨rfl,hb⟩;(first | rw [<-HX.out.1] | rw [<-HX.out.2]);have q00:=Ok.cell hb z0 g00;have q01:=Ok.cell hb z0 g01;have q10:=Ok.cell hb z1 g10;have q11:=Ok.cell hb z1 g11;obtain ⟨c0,c1,c2,c3⟩:=row_facts (Ok.row' hb HR2.out))
    | (go_at_call 193;refine (ptimes_any x y m HXU.out.1 HXU.out.2 HP.out HM.out W _ (by repeat (first | assumption | refine Ok.alloc ?_ _ | refine Below.drew ?_))).mono ?_;rintro e w' ⟨rfl,hb⟩;rw [<-HG.out.2.2];have q00:=Ok.cell hb z0 g00;have q01:=Ok.cell hb z0 g01;have q10:=Ok.cell hb z1 g10;have q11:=Ok.cell hb z1 g11;obtain ⟨c0,c1,c2,c3⟩:=row_facts (Ok.row' hb HR2.out))
    | fail)
   have hr:Hid _:=Ok.row' hb HR2.out
   have HBB:Hid (Ok w0 w'):=HW.out.step hb
   go_wp2_with fail
   (try simp only [Exit.inBlock, Exit.then]); refine bodyPost_ret (results_cell_row rfl _ _ (w.heap.size+2) 27 #[_, _] (0, 0) _ rfl (row_set2 hr.out _ _) Tryz.underlying27 rfl infoCg) rfl ?_
   exact ⟨rfl,(HBB.out.set (show w0.heap.size<=w.heap.size+2 by omega) _).set (show w0.heap.size<=w.heap.size+2 by omega) _⟩
end Go.Proofs.YtnjmjnmhldhaoaaGreat
