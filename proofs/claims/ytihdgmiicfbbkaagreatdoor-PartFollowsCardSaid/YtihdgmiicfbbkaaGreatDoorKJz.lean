import Derived.Test.YtihdgmiicfbbkaaGreatDoorKJy
set_option linter.all false
set_option maxRecDepth 100000
namespace Go.Proofs.YtihdgmiicfbbkaaGreatDoor
open Go.RowKit Go.Maps
structure FoLaw (W:World) (v:Nat->Value) (c:Nat->Int) (tz:Option Addr) (tn tc:Nat) (F:List Int->Int×Int):Prop where
 pf:∀ Z pv path,Ok W Z->SL Z 1 pv path.length (ilL path)->path.length<=4000000000000000000->(∀ y∈path,(Lit.int .i64 y).wf=true)->Calls Tryz.prog 6 #[.agg #[v 0,v 1,v 2,v 3,v 4,v 5],.agg #[.int .i64 (c 0),.int .i64 (c 1),.int .i64 (c 2),.int .i64 (c 3),.int .i64 (c 4),.int .i64 (c 5),.slice tz tn tc,.int .i64 (c 7),.int .i64 (c 8)],pv] Z fun e w'=>e=.returned (.tuple #[.int .i64 (F path).1,.int .i64 (F path).2])/\Ok Z w'
 qf:∀ Z pv path,Ok W Z->SL Z 1 pv path.length (ilL path)->path.length<=4000000000000000000->Calls Tryz.prog 5 #[.agg #[v 0,v 1,v 2,v 3,v 4,v 5],.agg #[nI (c 0),nI (c 1),nI (c 2),nI (c 3),nI (c 4),nI (c 5),.slice tz tn tc,nI (c 7),nI (c 8)],pv] Z fun e w'=>e=.returned (.tuple #[nI (F path).1,nI (F path).2])/\Ok Z w'
 si:∀ Z a b l,Ok W Z->SL Z 1 a l.length (ilL l)->SL Z 1 b l.length (ilL l)->l.length<=4000000000000000000->Calls Tryz.prog 7 #[a,b] Z fun e w'=>e=.returned (.bool true)/\Ok Z w'
 tk:∀ Z,Ok W Z->Calls Tryz.prog 8 #[] Z fun e w'=>e=.returned (.bool true)/\Ok Z w'
def FrgIs (w:World) (c:Nat->Int) (tz:Option Addr) (tn tc:Nat) (e:Ending) (w':World):Prop:=∃ (v:Nat->Value) (F:List Int->Int×Int),e=.returned (.agg #[v 0,v 1,v 2,v 3,v 4,v 5])/\(∀ i,i<6->∃ ao n c,v i=.slice ao n c)/\Ok w w'/\FoLaw w' v c tz tn tc F
theorem yJ5 {w:World} {B:Nat} {e:TypeId} {s n:Nat} {v:Value} {xs:List Value} (h:w.ownsRow B e s v (n+1) xs):∃ g cap,v=.slice (sA g 0) (n+1) cap/\B<=g:=by
 rcases h.2 with ⟨_,h2⟩ | ⟨g,cap,cur,e1,_⟩
 ·omega
 exact ⟨g,cap,e1,(h.lt g (by rw [e1];rfl)).1⟩
theorem yK3 {w:World} {B g cap pn:Nat} {ys:List Int} (h:w.ownsRow B 3 1 (.slice (sA g 0) (pn+1) cap) (pn+1) (ilL ys)):SL w 1 (.slice (sA g 0) pn cap) pn (ilL (ys.take pn)):=by
 have hl:ys.length=pn+1:=by have:=h.1;unfold ilL at this;rw [List.length_map] at this;omega
 refine zt1 (yj8 (ys:=ilL (ys.drop pn)) (m:=pn+1) (by unfold ilL at *;rw [<-List.map_append,List.take_append_drop];exact h) (by unfold ilL;rw [List.length_map,List.length_take];omega) (by omega)) (zJ6 _) (by decide)
theorem yJ9 (w:World):∃ (E:World) (g:Nat),((w.alloc (Obj.cells #[] 3)).drew=E/\w.heap.size=g)/\Hi (Ok w E)/\Hi (E.ownsRow w.heap.size 3 1 (.slice (sA g 0) 0 0) 0 []) :=
 ⟨_,_,⟨rfl,rfl⟩,Below.drew ((Ok.refl w).alloc _),za1 (yI3 w w.heap.size 3 1 (nR_ _)) (Below.drew (Ok.refl _))⟩
theorem yK0 {path:List Int} {k:Int} (h:∀ y∈path,(Lit.int .i64 y).wf=true) (hk:(Lit.int .i64 k).wf=true):∀ y∈path++[k],(Lit.int .i64 y).wf=true:=fun y hy=>by
 rcases List.mem_append.1 hy with hy | hy
 ·exact h y hy
 rw [List.mem_singleton.1 hy];exact hk
set_option maxHeartbeats 8000000 in
theorem yI9 (s:ByteArray) (odd:Int) (c:Nat->Int) (tz:Option Addr) (tn tc:Nat) (pv:Value) (path:List Int) (w:World)
  (hP:∀ Y,Ok w Y->Calls Tryz.prog 4 #[.string s,nI odd] Y fun e w'=>FrgIs Y c tz tn tc e w')
  (hp:SL w 1 pv path.length (ilL path)) (hpw:∀ y∈path,(Lit.int .i64 y).wf=true) (hpb:(path.length+1)*8<=140737488355328) :
  Calls Tryz.prog 3 #[.string s,nI odd,.agg #[nI (c 0),nI (c 1),nI (c 2),nI (c 3),nI (c 4),nI (c 5),.slice tz tn tc,nI (c 7),nI (c 8)],pv] w fun e w'=>e=.returned (.bool true)/\Ok w w':=by
 have HP:=hid hP;have HPK:=hid hp;have HPW:=hid hpw;obtain ⟨_,_,po,pc,rfl,_⟩:=hp;obtain ⟨pn,hpn⟩:=qq (path.length);have HPN:Hi (pn=path.length/\(pn+1)*8<=140737488355328):=⟨hpn,by rw [hpn];exact hpb⟩;rw [<-hpn] at HPK ⊢;clear hP hpw hpn hpb;go_enter Tryz.func3,Tryz.ntmps3;go_wp2_with fail;refine (HP.o _ ((Ok.refl w).alloc _)).mono ?_;rintro e w1 ⟨v,F,rfl,hsl,hk1,hlaw⟩;obtain ⟨g0,n0,k0,g1,n1,k1,g2,n2,k2,g3,n3,k3,g4,n4,k4,g5,n5,k5,e0,e1,e2,e3,e4,e5⟩:=slices6 hsl;obtain ⟨hpf,hqf,hsi,htk⟩:=hlaw;rw [e0,e1,e2,e3,e4,e5] at hpf hqf;rw [e0,e1,e2,e3,e4,e5];have HPF:=hid hpf;have HQF:=hid hqf;have HTK:=hid htk;have HSI:=hid hsi;have HC1:Hi (w1.heap[w.heap.size]?=some (.cells #[nI (c 0),nI (c 1),nI (c 2),nI (c 3),nI (c 4),nI (c 5),.slice tz tn tc,nI (c 7),nI (c 8)] 24 (0,0))):=Ok.row' hk1 (za3 _ _);have HK1:Hi (Ok w w1):=((Ok.refl w).alloc _).step hk1;obtain ⟨gC,hgC⟩:=qq (w.heap.size);rw [<-hgC] at HC1 ⊢;clear hsl hk1 hpf hqf hsi htk e0 e1 e2 e3 e4 e5 hgC HP
 go_upto_region 2 with (fail)
 obtain ⟨W,hW⟩:=qq (w1.alloc (Obj.cells #[.slice g0 n0 k0,.slice g1 n1 k1,.slice g2 n2 k2,.slice g3 n3 k3,.slice g4 n4 k4,.slice g5 n5 k5] 30));obtain ⟨gP,hgP⟩:=qq (w1.heap.size);rw [<-hW,<-hgP];have HKW:Hi (Ok w1 W):=by rw [hW];exact (Ok.refl _).alloc _
 have HCW:Hi (W.heap[gC]?=some (.cells #[nI (c 0),nI (c 1),nI (c 2),nI (c 3),nI (c 4),nI (c 5),.slice tz tn tc,nI (c 7),nI (c 8)] 24 (0,0))):=Ok.row' HKW.o HC1.o;have HPW2:Hi (W.heap[gP]?=some (.cells #[.slice g0 n0 k0,.slice g1 n1 k1,.slice g2 n2 k2,.slice g3 n3 k3,.slice g4 n4 k4,.slice g5 n5 k5] 30 (0,0))):=by rw [hW,hgP];exact za3 _ _
 clear hW hgP HC1;obtain ⟨p0,p1,p2,p3,p4,p5,p6,p7,p8,lgp⟩:=row9 HCW.o;obtain ⟨q0,q1,q2,q3,q4,q5,lgq⟩:=row6 HPW2.o;go_wp2_with fail;refine (HQF.o W _ path HKW.o (by rw [<-HPN.o.1];exact HPK.o.below (HK1.o.step HKW.o)) (by have:=HPN.o;omega)).mono ?_;rintro e w2 ⟨rfl,hk2⟩;have HKX:Hi (Ok W w2):=hk2;obtain ⟨x,hx⟩:=qq ((F path).1);obtain ⟨f,hf⟩:=qq ((F path).2);have HXF:Hi (x=(F path).1/\f=(F path).2):=⟨hx,hf⟩;rw [<-hx,<-hf];clear hk2 hx hf p0 p1 p2 p3 p4 p5 p6 p7 p8 lgp q0 q1 q2 q3 q4 q5 lgq;have HPX:Hi (∀ Y,Ok w2 Y->SL Y 1 (.slice po pn pc) pn (ilL path)):=fun Y hY=>HPK.o.below (((HK1.o.step HKW.o).step HKX.o).step hY)
 go_upto_region 4 with (first | (at_builtin;refine ze4 rfl _ _ 25 3 1 8 _ rfl Tryz.underlying25 infIn (by rfl) (by decide) (by decide) w2.heap.size (.slice (sA w2.heap.size 0) 0 0) 0 [] (by rfl) (yI3 w2 w2.heap.size 3 1 (Nat.le_refl _)) (.slice po pn pc) pn (ilL path) (by rfl) (HPX.o _ ((Ok.refl _).alloc _)) (by have:=HPN.o;omega) (by simp) ?_;intro v3 w3 k1 k2;rw [Nat.zero_add,List.nil_append] at k1;have HO3:=hid k1;have HK3:Hi (Ok w2 w3):=((Ok.refl w2).alloc _).grown k2 (fun b e=>((yI3 w2 w2.heap.size 3 1 (Nat.le_refl _)).lt b e).1);obtain ⟨a3,c3,rfl⟩:=za0 k1;clear k1 k2) | (at_builtin;refine ze4 rfl _ _ 25 3 1 8 _ rfl Tryz.underlying25 infIn (by rfl) (by decide) (by decide) w2.heap.size (.slice a3 pn c3) pn (ilL path) (by rfl) (World.ownsRow.alloc HO3.o _) (.slice (sA w3.heap.size 0) 1 1) 1 [nI 77] (by rfl) (SL.one w3 3 [nI 77] rfl (by simp [Value.oneCell'])) (by have:=HPN.o;omega) (by have:=HK3.o.le;simp;omega) ?_;intro v4 w4 k1 k2;have HO4:=hid k1;have HK4:Hi (Ok w2 w4):=(HK3.o.alloc _).grown k2 (fun b e=>(HO3.o.lt b e).1);obtain ⟨g,cp,rfl,hg⟩:=yJ5 k1;have HG:Hi (w2.heap.size<=g):=hg;clear k1 k2 hg) | fail)
 clear HO3 HK3;obtain ⟨zs,hzs⟩:∃ z:List Int,z=path++[77]:=⟨_,rfl⟩;have HZ:Hi (zs.length=pn+1/\(∀ y∈zs,(Lit.int .i64 y).wf=true)/\zs.take pn=path/\zs[pn]?=some 77):=by rw [hzs,HPN.o.1];exact ⟨by simp,yK0 HPW.o rfl,by simp,by simp⟩
 replace HO4:Hi (w4.ownsRow w2.heap.size 3 1 (.slice (sA g 0) (pn+1) cp) (pn+1) (ilL zs)):=by have:=HO4.o;rw [hzs];unfold ilL at this ⊢;rw [List.map_append];exact this
 clear hzs;have HCP:Hi (pn+1<=cp):=yy2 HO4.o _ _ _ rfl;have HGV:Hi (∀ Y ys,Y.ownsRow w2.heap.size 3 1 (.slice (sA g 0) (pn+1) cp) (pn+1) (ilL ys)->SL Y 1 (.slice (sA g 0) pn cp) pn (ilL (ys.take pn))):=fun Y ys h=>yK3 h;have HR:Hi (∀ Y,Ok w2 Y->Y.heap[gC]?=some (.cells #[nI (c 0),nI (c 1),nI (c 2),nI (c 3),nI (c 4),nI (c 5),.slice tz tn tc,nI (c 7),nI (c 8)] 24 (0,0))/\Y.heap[gP]?=some (.cells #[.slice g0 n0 k0,.slice g1 n1 k1,.slice g2 n2 k2,.slice g3 n3 k3,.slice g4 n4 k4,.slice g5 n5 k5] 30 (0,0))):=fun Y hY=>⟨Ok.row' (HKX.o.step hY) HCW.o,Ok.row' (HKX.o.step hY) HPW2.o⟩;have S0:Ok w4 w4.drew:=Below.drew (Ok.refl _);refine zd5 (fun Y=>Ok w4 Y) 11 kR ?_;refine tL 0 (.agg #[.slice g0 n0 k0,.slice g1 n1 k1,.slice g2 n2 k2,.slice g3 n3 k3,.slice g4 n4 k4,.slice g5 n5 k5]) S0 ?_ ?_
 ·intro w' s0;obtain ⟨q0,q1,q2,q3,q4,q5,lgq⟩:=row6 (HR.o w' (HK4.o.step s0)).2;clear s0;go_simp
 refine tL 1 (.agg #[nI (c 0),nI (c 1),nI (c 2),nI (c 3),nI (c 4),nI (c 5),.slice tz tn tc,nI (c 7),nI (c 8)]) S0 ?_ ?_
 ·intro w' s0;obtain ⟨p0,p1,p2,p3,p4,p5,p6,p7,p8,lgp⟩:=row9 (HR.o w' (HK4.o.step s0)).1;clear s0;go_simp
 refine tL 2 (.slice (sA g 0) (pn+1) cp) S0 ?_ ?_
 ·intro w' s0;clear s0;go_simp
 refine tL 3 (.slice po pn pc) S0 ?_ ?_
 ·intro w' s0;clear s0;go_simp
 refine tL 4 (nI (pn:Nat)) S0 ?_ ?_
 ·intro w' s0;clear s0;go_simp
 refine tL 5 (.slice (sA g 0) pn cp) S0 ?_ ?_
 ·intro w' s0;have u1:=HCP.o;have u2:(pn:Int)<=(cp:Int):=oM;have u3:(0:Int)<=(pn:Int):=oM;clear s0 u1;go_simp
 (try simp only [Act.put,List.setIfInBounds_toArray,List.set_cons_zero,List.set_cons_succ]);refine zb0 (i:=6) kR rfl (fun K hK=>?_);go_simp;refine (HPF.o _ _ path ((HKW.o.step HKX.o).step (HK4.o.step S0)) (by have:=HGV.o _ zs (za1 HO4.o S0);rw [HZ.o.2.2.1] at this;rw [<-HPN.o.1];exact this) (by have:=HPN.o;omega) HPW.o).mono ?_;rintro e w5 ⟨rfl,hk⟩;have S1:Ok w4 w5:=S0.step hk;rw [<-HXF.o.1,<-HXF.o.2];clear hk;go_wp2_with fail;refine hK.out _ _ (fun _=>S1) ?_;clear hK K;(try simp only [Act.put,List.setIfInBounds_toArray,List.set_cons_zero,List.set_cons_succ]);refine tL 7 (.tuple #[nI x,nI f]) S1 ?_ ?_
 ·intro w' s0;clear s0;go_simp
 refine tL 8 (nI x) S1 ?_ ?_
 ·intro w' s0;clear s0;go_simp
 refine tL 9 (nI f) S1 ?_ ?_
 ·intro w' s0;clear s0;go_simp
 refine zb0 (i:=10) kR rfl (fun K hK=>?_);go_simp;refine hK.out _ _ (fun _=>S1) ?_;clear hK K;refine zb0 (i:=11) kR rfl (fun K hK=>?_);go_simp;refine hK.out _ _ (fun h=>absurd rfl h) ?_;clear hK K;refine zd4 kR ?_ _;have Hw5:Hi (Ok w2 w5):=HK4.o.step S1;have Ow5:=hid (za1 HO4.o S1);clear S0 S1;clear HK4 HO4;have nx:(x != x)=false:=bne_self_eq_false x;have nf:(f != f)=false:=bne_self_eq_false f;have c7:=own_c Ow5.o (zk6 HZ.o.2.2.2);have lg:=(Ow5.o.lt g rfl).2;have u1:=HCP.o;have u2:(pn:Int)<=(cp:Int):=oM;have u3:(0:Int)<=(pn:Int):=oM;have u4:(pn:Int)<((pn+1:Nat):Int):=oM;have u5:¬(((pn+1:Nat):Int)<=(pn:Int)):=oM;clear u1;go_wp2_with fail;refine (HSI.o w5 _ _ path ((HKW.o.step HKX.o).step Hw5.o) (by have:=HGV.o _ zs Ow5.o;rw [HZ.o.2.2.1] at this;rw [<-HPN.o.1];exact this) (by rw [<-HPN.o.1];exact HPX.o _ Hw5.o) (by have:=HPN.o;omega)).mono ?_;rintro e w6 ⟨rfl,hk⟩;have HK6:Hi (Ok w2 w6):=Hw5.o.step hk;have HO6:Hi (w6.ownsRow w2.heap.size 3 1 (.slice (sA g 0) (pn+1) cp) (pn+1) (ilL zs)):=za1 Ow5.o hk;have HZ6:Hi (zs.length=pn+1/\∀ y∈zs,(Lit.int .i64 y).wf=true):=⟨HZ.o.1,HZ.o.2.1⟩;clear hk nx nf c7 lg u2 u3 u4 u5 Hw5 Ow5 HZ HXF;go_wp2_with fail;go_loopw [15] (fun t wr=>∃ (k:Nat) (ys:List Int),t=.int .i64 (k:Nat)/\k<=pn/\Hi (ys.length=pn+1/\∀ y∈ys,(Lit.int .i64 y).wf=true)/\Hi (wr.ownsRow w2.heap.size 3 1 (.slice (sA g 0) (pn+1) cp) (pn+1) (ilL ys))/\Hi (Ok w2 wr)) (fun t _=>pn-(intOf t).toNat)
 case atStart=>exact ⟨0,zs,rfl,zL_ _,HZ6,HO6,HK6⟩
 obtain ⟨k,ys,rfl,hk,HY,HO,HK⟩:=hrel;clear HZ6 HO6 HK6;by_cases hkl:k<pn
 ·have hkl':(k:Int)<(pn:Int):=za5 hkl
  have hw1:IntKind.i64.wrap ((pn:Int)-1)=((pn-1:Nat):Int):=by rw [IntKind.wrap_i64];have:=HPN.o;omega
  have hw2:IntKind.i64.wrap (((pn-1:Nat):Int)-(k:Int))=((pn-1-k:Nat):Int):=by rw [IntKind.wrap_i64];have:=HPN.o;omega
  have hw3:IntKind.i64.wrap ((k:Int)+1)=((k+1:Nat):Int):=by rw [IntKind.wrap_i64];have:=HPN.o;omega
  obtain ⟨m,hm⟩:=qq (pn-1-k);rw [<-hm] at hw2;have hml:m<pn:=oM;clear hm;obtain ⟨y,hy⟩:∃ y,path[m]?=some y:=⟨_,gG_ (by have:=HPN.o;omega)⟩;obtain ⟨b1,f1,rfl,q1,c1⟩:=(HPX.o wr HK.o).place oM;have d1:=c1 m (nI y) (zk6 hy);have u3:(0:Int)<=(m:Int):=oM;have u4:(m:Int)<(pn:Int):=oM;have u5:¬((pn:Int)<=(m:Int)):=oM;have v3:(0:Int)<=(k:Int):=oM;have v4:(k:Int)<((pn+1:Nat):Int):=oM;have v5:¬(((pn+1:Nat):Int)<=(k:Int)):=oM;obtain ⟨z,hz⟩:∃ z,ys[k]?=some z:=⟨_,gG_ (by have:=HY.o.1;omega)⟩;have d2:=own_c HO.o (zk6 hz);have lg:=(HO.o.lt g rfl).2;have fr:=yH9 HO.o k;clear c1 hy hz;go_wp2_with fail;refine ⟨⟨k+1,ys.set k (wrap64 (y+1)),rfl,hkl,⟨by rw [List.length_set];exact HY.o.1,fun a ha=>(List.mem_or_eq_of_mem_set ha).elim (HY.o.2 a) (fun e=>by rw [e];exact RowKit.wrap64_wf _)⟩,?_,HK.o.set HG.o _⟩,?_⟩
  ·have:=zA1 HO.o (j:=k) (nI (wrap64 (y+1))) (by omega);unfold Hi ilL at *;rw [List.map_set];exact this
  simp only [intOf,Int.toNat_natCast];omega
 have hkl':¬(k:Int)<(pn:Int):=oM;clear hk hkl
 go_upto_region 11 with (fail)
 have HYT:Hi ((ys.take pn).length=pn/\∀ y∈ys.take pn,(Lit.int .i64 y).wf=true):=⟨by rw [List.length_take,HY.o.1];omega,fun y hy=>HY.o.2 y (List.mem_of_mem_take hy)⟩;have S0:Ok wr wr.drew:=Below.drew (Ok.refl _);refine zd5 (fun Y=>Ok wr Y) 13 kR ?_;refine tL 0 (.agg #[.slice g0 n0 k0,.slice g1 n1 k1,.slice g2 n2 k2,.slice g3 n3 k3,.slice g4 n4 k4,.slice g5 n5 k5]) S0 ?_ ?_
 ·intro w' s0;obtain ⟨q0,q1,q2,q3,q4,q5,lgq⟩:=row6 (HR.o w' (HK.o.step s0)).2;clear s0;go_simp
 refine tL 1 (.agg #[nI (c 0),nI (c 1),nI (c 2),nI (c 3),nI (c 4),nI (c 5),.slice tz tn tc,nI (c 7),nI (c 8)]) S0 ?_ ?_
 ·intro w' s0;obtain ⟨p0,p1,p2,p3,p4,p5,p6,p7,p8,lgp⟩:=row9 (HR.o w' (HK.o.step s0)).1;clear s0;go_simp
 refine tL 3 (.slice (sA g 0) (pn+1) cp) S0 ?_ ?_
 ·intro w' s0;clear s0;go_simp
 refine tL 4 (.slice po pn pc) S0 ?_ ?_
 ·intro w' s0;clear s0;go_simp
 refine tL 5 (nI (pn:Nat)) S0 ?_ ?_
 ·intro w' s0;clear s0;go_simp
 refine tL 6 (.slice (sA g 0) pn cp) S0 ?_ ?_
 ·intro w' s0;have u1:=HCP.o;have u2:(pn:Int)<=(cp:Int):=oM;have u3:(0:Int)<=(pn:Int):=oM;clear s0 u1;go_simp
 (try simp only [Act.put,List.setIfInBounds_toArray,List.set_cons_zero,List.set_cons_succ]);refine zb0 (i:=2) kR rfl (fun K hK=>?_);go_simp;obtain ⟨E1,gE,hE,HE1,HEO⟩:=yJ9 wr;rw [hE.1,hE.2];refine hK.out _ _ (fun _=>HE1.o) ?_;clear hK K hE;(try simp only [Act.put,List.setIfInBounds_toArray,List.set_cons_zero,List.set_cons_succ]);refine zb0 (i:=7) kR rfl (fun K hK=>?_);refine zj0 rfl _ _ 25 3 1 8 _ rfl Tryz.underlying25 infIn (by rfl) dC dC wr.heap.size (.slice (sA gE 0) 0 0) 0 [] (by rfl) HEO.o (.slice (sA g 0) pn cp) pn (ilL (ys.take pn)) (by rfl) (HGV.o E1 ys (za1 HO.o HE1.o)) (by have:=HPN.o;omega) HE1.o.le ?_;intro v1 E2 k1 k2;rw [Nat.zero_add,List.nil_append] at k1;have S1:Ok wr E2:=HE1.o.grown k2 (fun b e=>(HEO.o.lt b e).1);have HO2:=hid k1;obtain ⟨ao2,cap2,rfl⟩:=za0 k1;clear k1 k2;refine hK.out _ _ (fun _=>S1) ?_;clear hK K;(try simp only [Act.put,List.setIfInBounds_toArray,List.set_cons_zero,List.set_cons_succ]);refine zb0 (i:=8) kR rfl (fun K hK=>?_);go_simp;refine (HQF.o E2 _ (ys.take pn) ((HKW.o.step HKX.o).step (HK.o.step S1)) (by rw [HYT.o.1];exact zt1 HO2.o (zJ6 _) (by decide)) (by have:=HPN.o;have:=HYT.o.1;omega)).mono ?_;rintro e w7 ⟨rfl,hk⟩;have S2:Ok wr w7:=S1.step hk;obtain ⟨x2,hx⟩:=qq ((F (ys.take pn)).1);obtain ⟨f2,hf⟩:=qq ((F (ys.take pn)).2);have HX2:Hi (x2=(F (ys.take pn)).1/\f2=(F (ys.take pn)).2):=⟨hx,hf⟩;rw [<-hx,<-hf];clear hx hf hk S0 HE1 HEO HO2;go_wp2_with fail;refine hK.out _ _ (fun _=>S2) ?_;clear hK K;(try simp only [Act.put,List.setIfInBounds_toArray,List.set_cons_zero,List.set_cons_succ]);refine tL 9 (.tuple #[nI x2,nI f2]) S2 ?_ ?_
 ·intro w' s0;clear s0;go_simp
 refine tL 10 (nI x2) S2 ?_ ?_
 ·intro w' s0;clear s0;go_simp
 refine tL 11 (nI f2) S2 ?_ ?_
 ·intro w' s0;clear s0;go_simp
 refine zb0 (i:=12) kR rfl (fun K hK=>?_);go_simp;refine hK.out _ _ (fun _=>S2) ?_;clear hK K;refine zb0 (i:=13) kR rfl (fun K hK=>?_);go_simp;refine hK.out _ _ (fun h=>absurd rfl h) ?_;clear hK K;refine zd4 kR ?_ _;have HK7:Hi (Ok w2 w7):=HK.o.step S2;have HO7:=hid (za1 HO.o S2);clear S1 S2 HK HO HY
 go_upto_region 12 with (fail)
 have S0:Ok w7 w7.drew:=Below.drew (Ok.refl _);refine zd5 (fun Y=>Ok w7 Y) 11 kR ?_;refine tL 0 (.agg #[.slice g0 n0 k0,.slice g1 n1 k1,.slice g2 n2 k2,.slice g3 n3 k3,.slice g4 n4 k4,.slice g5 n5 k5]) S0 ?_ ?_
 ·intro w' s0;obtain ⟨q0,q1,q2,q3,q4,q5,lgq⟩:=row6 (HR.o w' (HK7.o.step s0)).2;clear s0;go_simp
 refine tL 1 (.agg #[nI (c 0),nI (c 1),nI (c 2),nI (c 3),nI (c 4),nI (c 5),.slice tz tn tc,nI (c 7),nI (c 8)]) S0 ?_ ?_
 ·intro w' s0;obtain ⟨p0,p1,p2,p3,p4,p5,p6,p7,p8,lgp⟩:=row9 (HR.o w' (HK7.o.step s0)).1;clear s0;go_simp
 refine tL 2 (.slice (sA g 0) (pn+1) cp) S0 ?_ ?_
 ·intro w' s0;clear s0;go_simp
 refine tL 3 (.slice po pn pc) S0 ?_ ?_
 ·intro w' s0;clear s0;go_simp
 refine tL 4 (nI (pn:Nat)) S0 ?_ ?_
 ·intro w' s0;clear s0;go_simp
 refine tL 5 (.slice (sA g 0) pn cp) S0 ?_ ?_
 ·intro w' s0;have u1:=HCP.o;have u2:(pn:Int)<=(cp:Int):=oM;have u3:(0:Int)<=(pn:Int):=oM;clear s0 u1;go_simp
 (try simp only [Act.put,List.setIfInBounds_toArray,List.set_cons_zero,List.set_cons_succ]);refine zb0 (i:=6) kR rfl (fun K hK=>?_);go_simp;refine (HPF.o _ _ (ys.take pn) ((HKW.o.step HKX.o).step (HK7.o.step S0)) (by rw [HYT.o.1];exact HGV.o _ ys (za1 HO7.o S0)) (by have:=HPN.o;have:=HYT.o.1;omega) HYT.o.2).mono ?_;rintro e w8 ⟨rfl,hk⟩;have S1:Ok w7 w8:=S0.step hk;rw [<-HX2.o.1,<-HX2.o.2];clear hk;go_wp2_with fail;refine hK.out _ _ (fun _=>S1) ?_;clear hK K;(try simp only [Act.put,List.setIfInBounds_toArray,List.set_cons_zero,List.set_cons_succ]);refine tL 7 (.tuple #[nI x2,nI f2]) S1 ?_ ?_
 ·intro w' s0;clear s0;go_simp
 refine tL 8 (nI x2) S1 ?_ ?_
 ·intro w' s0;clear s0;go_simp
 refine tL 9 (nI f2) S1 ?_ ?_
 ·intro w' s0;clear s0;go_simp
 refine zb0 (i:=10) kR rfl (fun K hK=>?_);go_simp;refine hK.out _ _ (fun _=>S1) ?_;clear hK K;refine zb0 (i:=11) kR rfl (fun K hK=>?_);go_simp;refine hK.out _ _ (fun h=>absurd rfl h) ?_;clear hK K;refine zd4 kR ?_ _;have Hw8:Hi (Ok w2 w8):=HK7.o.step S1;have Ow8:=hid (za1 HO7.o S1);clear S0 S1;have nx:(x2==x2)=true:=beq_self_eq_true x2;have nf:(f2==f2)=true:=beq_self_eq_true f2;go_wp2_with fail;refine (HTK.o _ ((HKW.o.step HKX.o).step Hw8.o)).mono ?_;rintro e w9 ⟨rfl,hk⟩;have HK9:Hi (Ok w w9):=((HK1.o.step (HKW.o.step HKX.o)).step Hw8.o).step hk;clear hk;go_wp2_with fail;go_ret;exact ⟨rfl,HK9.o⟩
end Go.Proofs.YtihdgmiicfbbkaaGreatDoor
