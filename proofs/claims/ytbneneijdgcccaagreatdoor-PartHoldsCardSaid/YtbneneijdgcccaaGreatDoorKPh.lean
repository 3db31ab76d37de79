import Derived.Test.YtbneneijdgcccaaGreatDoorKPe
set_option maxHeartbeats 8000000
set_option linter.all false
set_option maxRecDepth 100000
namespace Go.Proofs.YtbneneijdgcccaaGreatDoor
section
open Go.RowKit
theorem eqNode (n:Nd) (w:World):(Op.equalIn 10000 75 (.agg #[.int .i64 n.depth,.int .i64 n.kind,.string n.name,.int .i64 n.num,.int .i64 n.op,.int .i64 n.pos]) (.agg #[.int .i64 n.depth,.int .i64 n.kind,.string n.name,.int .i64 n.num,.int .i64 n.op,.int .i64 n.pos])).run Tryz.prog w=.ok true w:=by
 rw [show (10000:Nat)=9999+1 from rfl,run_equalIn_agg w 9999 75 _ _ (by kernel_rfl) (by kernel_rfl)]
 simp only [Program.fieldsOf,Tryz.underlying75]
 go_simp
theorem guNd:Tryz.prog.eqGuardType Tryz.prog.depth 75=false:=by kernel_rfl
theorem zI2 {l m:Ls} (h:likeB eqSt l.sc m.sc=false):sameLs l m=false:=by unfold sameLs;rw [h];simp
theorem zI3 {l m:Ls} (h:likeB eqAr l.ar m.ar=false):sameLs l m=false:=by unfold sameLs;rw [h];simp
theorem yj2 {l m:Ls} (h:likeB eqIn l.sy m.sy=false):sameLs l m=false:=by unfold sameLs;rw [h];simp
theorem yj3 {l m:Ls} (h:likeB eqIn l.si m.si=false):sameLs l m=false:=by unfold sameLs;rw [h];simp
theorem yj4 {l m:Ls} (h:likeB eqIn l.so m.so=false):sameLs l m=false:=by unfold sameLs;rw [h];simp
theorem yj5 (v0 v1 v2 v3 v4 v5 u0 u1 u2 u3 u4 u5:Value) (ns:List Nd) (l m:Ls) (w:World) (hp:ProgIs w v0 v1 v2 v3 v4 v5 ns l) (hq:ProgIs w u0 u1 u2 u3 u4 u5 ns m) :
  Calls Tryz.prog 31 #[.agg #[v0,v1,v2,v3,v4,v5],.agg #[u0,u1,u2,u3,u4,u5]] w fun e w'=>e=.returned (.bool (sameLs l m))/\Ok w w':=by
 obtain ⟨w0,hw0⟩:=qq ((w.alloc (Obj.cells #[v0,v1,v2,v3,v4,v5] 30)).alloc (Obj.cells #[u0,u1,u2,u3,u4,u5] 30))
 have HB0:Hi (Ok w w0):=by rw [hw0];exact ((Ok.refl w).alloc _).alloc _
 have HA0:Hi (PC w0 w.heap.size v0 v1 v2 v3 v4 v5):=by rw [hw0];exact (PC.new w v0 v1 v2 v3 v4 v5).below ((Below.refl _ _).alloc (Nat.le_refl _) _)
 have HC0:Hi (PC w0 (w.heap.size+1) u0 u1 u2 u3 u4 u5):=by
  have:=PC.new (w.alloc (Obj.cells #[v0,v1,v2,v3,v4,v5] 30)) u0 u1 u2 u3 u4 u5
  rw [show (w.alloc (Obj.cells #[v0,v1,v2,v3,v4,v5] 30)).heap.size=w.heap.size+1 from by simp] at this
  unfold Hi;rw [hw0];exact this
 have HP0:Hi (ProgIs w0 v0 v1 v2 v3 v4 v5 ns l):=hp.below HB0.o
 have HQ0:Hi (ProgIs w0 u0 u1 u2 u3 u4 u5 ns m):=hq.below HB0.o
 obtain ⟨_,x0,y0,rfl,_,hy0,_⟩:=hp.nodes
 obtain ⟨hx1,x1,y1,rfl,_⟩:=hp.lists.sc
 obtain ⟨hx2,x2,y2,rfl,_⟩:=hp.lists.ar
 obtain ⟨_,X0,Y0,rfl,_,hY0,_⟩:=hq.nodes
 obtain ⟨hX1,X1,Y1,rfl,_⟩:=hq.lists.sc
 obtain ⟨hX2,X2,Y2,rfl,_⟩:=hq.lists.ar
 clear hp hq
 unfold maxLen at hx1 hx2 hX1 hX2 hy0 hY0
 by_cases h1:l.sc.length=m.sc.length
 case neg =>
  have HE:Hi (sameLs l m=false):=zI2 (zh7 _ _ _ h1)
  have b1:((l.sc.length:Int)==(m.sc.length:Int))=false:=by rw [beq_eq_false_iff_ne];omega
  have b1':((l.sc.length:Int) != (m.sc.length:Int))=true:=by rw [bne_iff_ne];omega
  clear h1
  go_enter Tryz.func31,Tryz.ntmps31
  go_wp2_with fail
  rw [<-hw0]
  go_ret
  exact ⟨za4 HE.o.symm,HB0.o⟩
 by_cases h2:l.ar.length=m.ar.length
 case neg =>
  have HE:Hi (sameLs l m=false):=zI3 (zh7 _ _ _ h2)
  have b1:((l.sc.length:Int)==(m.sc.length:Int))=true:=by rw [h1];simp
  have b2:((l.ar.length:Int)==(m.ar.length:Int))=false:=by rw [beq_eq_false_iff_ne];omega
  have b2':((l.ar.length:Int) != (m.ar.length:Int))=true:=by rw [bne_iff_ne];omega
  have b1':((l.sc.length:Int) != (m.sc.length:Int))=false:=by rw [h1];simp
  clear h1 h2
  go_enter Tryz.func31,Tryz.ntmps31
  go_wp2_with fail
  rw [<-hw0]
  go_ret
  exact ⟨za4 HE.o.symm,HB0.o⟩
 have HH:Hi (l.sc.length=m.sc.length/\l.ar.length=m.ar.length):=⟨h1,h2⟩
 rw [h1,h2] at HP0 HA0 hw0 ⊢
 clear h1 h2
 go_enter Tryz.func31,Tryz.ntmps31
 go_wp2_with fail
 rw [<-hw0]
 clear hw0
 refine (zu7 _ _ _ _ _ HP0.o.lists.sy HQ0.o.lists.sy).mono ?_
 rintro e w1 ⟨rfl,hb1⟩
 have HB1:Hi (Ok w w1):=HB0.o.step hb1
 have HA1:Hi _:=HA0.o.below hb1
 have HC1:Hi _:=HC0.o.below hb1
 have HP1:Hi _:=HP0.o.below hb1
 have HQ1:Hi _:=HQ0.o.below hb1
 clear hb1 HP0 HQ0 HA0 HC0 HB0
 have z4:=HA1.o.c4
 have y4:=HC1.o.c4
 cases h3:likeB eqIn l.sy m.sy
 ·have HE:Hi (sameLs l m=false):=yj2 h3
  go_wp2_with fail
  go_ret
  exact ⟨za4 HE.o.symm,HB1.o⟩
 go_wp2_with fail
 refine (zu7 _ _ _ _ _ HP1.o.lists.si HQ1.o.lists.si).mono ?_
 rintro e w2 ⟨rfl,hb2⟩
 have HB2:Hi (Ok w w2):=HB1.o.step hb2
 have HA2:Hi _:=HA1.o.below hb2
 have HC2:Hi _:=HC1.o.below hb2
 have HP2:Hi _:=HP1.o.below hb2
 have HQ2:Hi _:=HQ1.o.below hb2
 clear hb2 HP1 HQ1 HA1 HC1 HB1 z4 y4
 have z5:=HA2.o.c5
 have y5:=HC2.o.c5
 cases h4:likeB eqIn l.si m.si
 ·have HE:Hi (sameLs l m=false):=yj3 h4
  go_wp2_with fail
  go_ret
  exact ⟨za4 HE.o.symm,HB2.o⟩
 go_wp2_with fail
 refine (zu7 _ _ _ _ _ HP2.o.lists.so HQ2.o.lists.so).mono ?_
 rintro e w3 ⟨rfl,hb3⟩
 have HB3:Hi (Ok w w3):=HB2.o.step hb3
 have HA3:Hi _:=HA2.o.below hb3
 have HC3:Hi _:=HC2.o.below hb3
 have HP3:Hi _:=HP2.o.below hb3
 have HQ3:Hi _:=HQ2.o.below hb3
 clear hb3 HP2 HQ2 HA2 HC2 HB2 z5 y5
 cases h5:likeB eqIn l.so m.so
 ·have HE:Hi (sameLs l m=false):=yj4 h5
  go_wp2_with fail
  go_ret
  exact ⟨za4 HE.o.symm,HB3.o⟩
 have HSM:Hi (sameLs l m=(likeB eqSt l.sc m.sc&&likeB eqAr l.ar m.ar)):=by unfold Hi sameLs;rw [h3,h4,h5];simp
 clear h3 h4 h5
 have z0:=HA3.o.c0
 have y0':=HC3.o.c0
 go_wp2_with fail
 go_loopw [5] (fun t wr=>∃ k:Nat,k<=ns.length/\t=.int .i64 k/\Hi (Ok w3 wr)) (fun t _=>ns.length-(intOf t).toNat)
 case atStart=>exact ⟨0,Nat.zero_le _,rfl,Ok.refl _⟩
 clear z0 y0'
 obtain ⟨k,hk,rfl,HW⟩:=hrel
 have HAw:Hi _:=HA3.o.below HW.o
 have HCw:Hi _:=HC3.o.below HW.o
 have z0:=HAw.o.c0
 have y0':=HCw.o.c0
 have ltA:=HAw.o.lt
 have ltC:=HCw.o.lt
 by_cases hlt:k<ns.length
 ·obtain ⟨_,ao,cap,e1,_,_,hN⟩:=HP3.o.nodes
  injection e1 with e1 e2 e3;clear e2
  subst e1 e3
  obtain ⟨_,ao,cap,e1,_,_,hM⟩:=HQ3.o.nodes
  injection e1 with e1 e2 e3;clear e2
  subst e1 e3
  have hne:ns≠[]:=fun e=>by rw [e] at hlt;simp at hlt
  obtain ⟨b1,o1,rfl,N1⟩:=hN.resolve_left hne
  obtain ⟨b2,o2,rfl,N2⟩:=hM.resolve_left hne
  have M1:=N1.below HW.o
  have M2:=N2.below HW.o
  have hlt':(k:Int)<(ns.length:Int):=za5 hlt
  have hkw:IntKind.i64.wrap ((k:Int)+1)=((k+1:Nat):Int):=zd3 (by omega) (by omega)
  have c0:=M1.c0 k hlt
  have c1:=M1.c1 k hlt
  have c2:=M1.c2 k hlt
  have c3:=M1.c3 k hlt
  have c4:=M1.c4 k hlt
  have c5:=M1.c5 k hlt
  have d0:=M2.c0 k hlt
  have d1:=M2.c1 k hlt
  have d2:=M2.c2 k hlt
  have d3:=M2.c3 k hlt
  have d4:=M2.c4 k hlt
  have d5:=M2.c5 k hlt
  have l1:=M1.lt
  have l2:=M2.lt
  generalize ns[k]=x at *
  have gq:=guNd
  have eq1:∀ w,(Op.equalIn 10000 75 (.agg #[.int .i64 x.depth,.int .i64 x.kind,.string x.name,.int .i64 x.num,.int .i64 x.op,.int .i64 x.pos]) (.agg #[.int .i64 x.depth,.int .i64 x.kind,.string x.name,.int .i64 x.num,.int .i64 x.op,.int .i64 x.pos])).run Tryz.prog w=.ok true w:=eqNode x
  clear N1 N2 M1 M2 hN hM hne
  go_wp2_with fail
  go_quiet (fail)
  go_wp2_with fail
  exact ⟨⟨k+1,hlt,by go_num,(HW.o.alloc _).draws _⟩,by simp [intOf];omega⟩
 have hlt':¬(k:Int)<(ns.length:Int):=zb2 hlt
 clear z0 y0'
 have z0:=HAw.o.c0
 go_wp2_with fail
 clear z0
 obtain ⟨w4,hw4⟩:=qq (wr)
 subst hw4
 have z1:=HAw.o.c1
 have y1':=HCw.o.c1
 have HP4:Hi _:=HP3.o.below HW.o
 have HQ4:Hi _:=HQ3.o.below HW.o
 have HB4:Hi (Ok w w4):=HB3.o.step HW.o
 have HCN:Hi (m.sc.length<=9223372036854775807/\m.ar.length<=9223372036854775807):=⟨hX1,hX2⟩
 clear hlt' hk hlt HP3 HQ3 HB3
 go_loopw [7] (fun t wr=>∃ k:Nat,k<=m.sc.length/\t=.int .i64 k/\Hi (likeB eqSt l.sc m.sc=likeB eqSt (l.sc.drop k) (m.sc.drop k))/\Hi (Ok w4 wr)) (fun t _=>m.sc.length-(intOf t).toNat)
 case atStart=>exact ⟨0,Nat.zero_le _,rfl,rfl,Ok.refl _⟩
 clear z1 y1'
 obtain ⟨j,hj,rfl,HR,HV⟩:=hrel
 have HAv:Hi _:=HAw.o.below HV.o
 have HCv:Hi _:=HCw.o.below HV.o
 have HPv:Hi _:=HP4.o.below HV.o
 have HQv:Hi _:=HQ4.o.below HV.o
 have HBv:Hi (Ok w wr):=HB4.o.step HV.o
 have zz:=HAv.o.c1
 have yy:=HCv.o.c1
 have ltA:=HAv.o.lt
 have ltC:=HCv.o.lt
 by_cases hjl:j<m.sc.length
 ·obtain ⟨_,ao,cap,e1,hN⟩:=HPv.o.lists.sc
  injection e1 with e1 e2 e3;clear e2
  subst e1 e3
  obtain ⟨_,ao,cap,e1,hM⟩:=HQv.o.lists.sc
  injection e1 with e1 e2 e3;clear e2
  subst e1 e3
  have i1:j<l.sc.length:=by have:=HH.o.1;omega
  obtain ⟨b1,o1,rfl,N1⟩:=hN.resolve_left (fun e=>by rw [e] at i1;simp at i1)
  obtain ⟨b2,o2,rfl,N2⟩:=hM.resolve_left (fun e=>by rw [e] at hjl;simp at hjl)
  have hjl':(j:Int)<(m.sc.length:Int):=za5 hjl
  have hjw:IntKind.i64.wrap ((j:Int)+1)=((j+1:Nat):Int):=zd3 (by omega) (by have:=HCN.o.1;omega)
  have c0:=N1.c j i1
  have d0:=N2.c j hjl
  skip
  skip
  have l1:=N1.lt
  have l2:=N2.lt
  have hr:=HR.o
  rw [zh4 _ l.sc m.sc j i1 hjl] at hr
  generalize l.sc[j]=x at *
  generalize m.sc[j]=y at *
  clear N1 N2 hN hM i1
  cases hq:(eqSt x y)
  ·have HE:Hi (sameLs l m=false):=zI2 (by rw [hr,hq];rfl)
   clear hr HR
   unfold eqSt at hq
   skip
   skip
   go_wp2_with fail
   go_quiet (fail)
   go_wp2_with fail
   go_ret
   exact ⟨za4 HE.o.symm,HBv.o.draws _⟩
  have HE:Hi (likeB eqSt l.sc m.sc=likeB eqSt (l.sc.drop (j+1)) (m.sc.drop (j+1))):=by unfold Hi;rw [hr,hq];rfl
  clear hr HR
  unfold eqSt at hq
  skip
  skip
  go_wp2_with fail
  go_quiet (fail)
  go_wp2_with fail
  exact ⟨⟨j+1,hjl,by go_num,HE,HV.o.draws _⟩,by simp [intOf];omega⟩
 have hjl':¬(j:Int)<(m.sc.length:Int):=zb2 hjl
 have HT:Hi (likeB eqSt l.sc m.sc=true):=by unfold Hi;rw [HR.o,List.drop_of_length_le (by have:=HH.o.1;omega),List.drop_of_length_le (by omega)];rfl
 have HTS:Hi (likeB eqSt l.sc m.sc=true):=HT.o
 go_wp2_with fail
 clear zz yy ltA ltC hjl' hjl hj
 clear HAw HCw HP4 HQ4 HB4 HR HT HV HW
 obtain ⟨w5,hw5⟩:=qq (wr)
 subst hw5
 have HAw:Hi _:=HAv.o
 have HCw:Hi _:=HCv.o
 have HP4:Hi _:=HPv.o
 have HQ4:Hi _:=HQv.o
 have HB4:Hi (Ok w w5):=HBv.o
 clear HAv HCv HPv HQv HBv
 have z2:=HAw.o.c2
 have y2':=HCw.o.c2
 go_loopw [8] (fun t wr=>∃ k:Nat,k<=m.ar.length/\t=.int .i64 k/\Hi (likeB eqAr l.ar m.ar=likeB eqAr (l.ar.drop k) (m.ar.drop k))/\Hi (Ok w5 wr)) (fun t _=>m.ar.length-(intOf t).toNat)
 case atStart=>exact ⟨0,Nat.zero_le _,rfl,rfl,Ok.refl _⟩
 clear z2 y2'
 obtain ⟨j,hj,rfl,HR,HV⟩:=hrel
 have HAv:Hi _:=HAw.o.below HV.o
 have HCv:Hi _:=HCw.o.below HV.o
 have HPv:Hi _:=HP4.o.below HV.o
 have HQv:Hi _:=HQ4.o.below HV.o
 have HBv:Hi (Ok w wr):=HB4.o.step HV.o
 have zz:=HAv.o.c2
 have yy:=HCv.o.c2
 have ltA:=HAv.o.lt
 have ltC:=HCv.o.lt
 by_cases hjl:j<m.ar.length
 ·obtain ⟨_,ao,cap,e1,hN⟩:=HPv.o.lists.ar
  injection e1 with e1 e2 e3;clear e2
  subst e1 e3
  obtain ⟨_,ao,cap,e1,hM⟩:=HQv.o.lists.ar
  injection e1 with e1 e2 e3;clear e2
  subst e1 e3
  have i1:j<l.ar.length:=by have:=HH.o.2;omega
  obtain ⟨b1,o1,rfl,N1⟩:=hN.resolve_left (fun e=>by rw [e] at i1;simp at i1)
  obtain ⟨b2,o2,rfl,N2⟩:=hM.resolve_left (fun e=>by rw [e] at hjl;simp at hjl)
  have hjl':(j:Int)<(m.ar.length:Int):=za5 hjl
  have hjw:IntKind.i64.wrap ((j:Int)+1)=((j+1:Nat):Int):=zd3 (by omega) (by have:=HCN.o.2;omega)
  have c0:=N1.c j i1
  have d0:=N2.c j hjl
  have c1:=N1.d j i1
  have d1:=N2.d j hjl
  have l1:=N1.lt
  have l2:=N2.lt
  have hr:=HR.o
  rw [zh4 _ l.ar m.ar j i1 hjl] at hr
  generalize l.ar[j]=x at *
  generalize m.ar[j]=y at *
  clear N1 N2 hN hM i1
  cases hq:(eqAr x y)
  ·have HE:Hi (sameLs l m=false):=zI3 (by rw [hr,hq];rfl)
   clear hr HR
   unfold eqAr at hq
   have g76:=gu76
   have e76:∀ w,(Op.equalIn 10000 125 (.agg #[.string x.1,.int .i64 x.2]) (.agg #[.string y.1,.int .i64 y.2])).run Tryz.prog w=.ok false w:=fun w=>by rw [eq76,hq]
   go_wp2_with fail
   go_quiet (fail)
   go_wp2_with fail
   go_ret
   exact ⟨za4 HE.o.symm,HBv.o.draws _⟩
  have HE:Hi (likeB eqAr l.ar m.ar=likeB eqAr (l.ar.drop (j+1)) (m.ar.drop (j+1))):=by unfold Hi;rw [hr,hq];rfl
  clear hr HR
  unfold eqAr at hq
  have g76:=gu76
  have e76:∀ w,(Op.equalIn 10000 125 (.agg #[.string x.1,.int .i64 x.2]) (.agg #[.string y.1,.int .i64 y.2])).run Tryz.prog w=.ok true w:=fun w=>by rw [eq76,hq]
  go_wp2_with fail
  go_quiet (fail)
  go_wp2_with fail
  exact ⟨⟨j+1,hjl,by go_num,HE,HV.o.draws _⟩,by simp [intOf];omega⟩
 have hjl':¬(j:Int)<(m.ar.length:Int):=zb2 hjl
 have HT:Hi (likeB eqAr l.ar m.ar=true):=by unfold Hi;rw [HR.o,List.drop_of_length_le (by have:=HH.o.2;omega),List.drop_of_length_le (by omega)];rfl
 have HE:Hi (sameLs l m=true):=by unfold Hi;rw [HSM.o,HTS.o,HT.o];rfl
 go_wp2_with fail
 go_ret
 exact ⟨za4 HE.o.symm,HBv.o⟩
end
section
open Go.RowKit
theorem zM9 {w:World} {B:Nat} {e:TypeId} {s n:Nat} {v:Value} {xs:List Value} (h:w.ownsRow B e s v n xs):n<=maxLen:=by
 rcases h.2 with ⟨_,h0⟩ | ⟨g,cap,cur,_,_,_,h1,h2,_⟩
 ·rw [h0];exact Nat.zero_le _
 omega
theorem zr4 {w:World} {B g cap:Nat} {e:TypeId} {s n:Nat} {xs:List Value} (h:w.ownsRow B e s (.slice (some ⟨g,0,none⟩) n cap) n xs) {j:Nat} {u:Value} (hj:xs[j]?=some u):w.cell? ⟨g,0+j,none⟩=some u:=by
 have:=h.cells (g:=g) rfl j u hj
 rw [zb7] at this
 exact this
theorem zC0 {w:World} {B:Nat} {e:TypeId} {s n:Nat} {v:Value} {xs:List Value} (h:w.ownsRow B e s v n xs):∃ ao cap,v=.slice ao n cap/\(n=0\/∃ g,ao=some ⟨g,0,none⟩/\g<w.heap.size/\B<=g):=by
 have hh:=h
 rcases h.2 with ⟨rfl,h0⟩ | ⟨g,cap,cur,rfl,hB,_⟩
 ·exact ⟨none,0,by rw [h0],.inl h0⟩
 exact ⟨_,cap,rfl,.inr ⟨g,rfl,(hh.lt g rfl).2,hB⟩⟩
theorem yC1 {w:World} {B:Nat} {v:Value} {l:List ByteArray} (h:w.ownsRow B 9 1 v l.length (l.map fun s=>.string s)):SStr w v l:=by
 obtain ⟨ao,cap,rfl,h1⟩:=zC0 h
 refine ⟨zM9 h,ao,cap,rfl,?_⟩
 rcases h1 with h1 | ⟨g,rfl,hg,_⟩
 ·exact .inl (List.eq_nil_of_length_eq_zero h1)
 refine .inr ⟨g,0,rfl,hg,fun i hi=>?_⟩
 exact zr4 h (by rw [List.getElem?_map,List.getElem?_eq_getElem hi];rfl)
theorem zN0 {w:World} {B:Nat} {v:Value} {l:List Int} (h:w.ownsRow B 3 1 v l.length (l.map fun s=>.int .i64 s)):SInt w v l:=by
 obtain ⟨ao,cap,rfl,h1⟩:=zC0 h
 refine ⟨zM9 h,ao,cap,rfl,?_⟩
 rcases h1 with h1 | ⟨g,rfl,hg,_⟩
 ·exact .inl (List.eq_nil_of_length_eq_zero h1)
 refine .inr ⟨g,0,rfl,hg,fun i hi=>?_⟩
 exact zr4 h (by rw [List.getElem?_map,List.getElem?_eq_getElem hi];rfl)
theorem zq1:∀ {l:List (ByteArray×Int)} {i:Nat} {x:ByteArray×Int},l[i]?=some x->(l.flatMap fun a=>[Value.string a.1,.int .i64 a.2])[i*2]?=some (.string x.1)/\(l.flatMap fun a=>[Value.string a.1,.int .i64 a.2])[i*2+1]?=some (.int .i64 x.2)
 | [],i,x,h=>by simp at h
 | a::l,0,x,h=>by simp at h;subst h;exact ⟨rfl,rfl⟩
 | a::l,i+1,x,h=>by
  rw [List.getElem?_cons_succ] at h
  have:=zq1 h
  rw [List.flatMap_cons,show (i+1)*2=i*2+1+1 by omega]
  exact this
theorem yC2 {w:World} {B:Nat} {v:Value} {l:List (ByteArray×Int)} (h:w.ownsRow B 125 2 v l.length (l.flatMap fun a=>[.string a.1,.int .i64 a.2])):SArr w v l:=by
 obtain ⟨ao,cap,rfl,h1⟩:=zC0 h
 refine ⟨zM9 h,ao,cap,rfl,?_⟩
 rcases h1 with h1 | ⟨g,rfl,hg,_⟩
 ·exact .inl (List.eq_nil_of_length_eq_zero h1)
 refine .inr ⟨g,0,rfl,hg,fun i hi=>?_,fun i hi=>?_⟩
 ·exact zr4 h (zq1 (List.getElem?_eq_getElem hi)).1
 exact zr4 h (zq1 (List.getElem?_eq_getElem hi)).2
theorem PrIs.prog {w:World} {B:Nat} {u:Nat->Value} {ns:List Nd} {l:Ls} (h:PrIs w B u ns l) (hok:∀ n∈ns,n.Ok):ProgIs w (u 0) (u 1) (u 2) (u 3) (u 4) (u 5) ns l:=by
 refine ⟨NL.snds (B:=B) ?_ hok,yC1 (B:=B) (h 1 (by decide)),yC2 (B:=B) (h 2 (by decide)),zN0 (B:=B) (h 3 (by decide)),zN0 (B:=B) (h 4 (by decide)),zN0 (B:=B) (h 5 (by decide))⟩
 have:=h 0 (by decide)
 have e:xOf ns ns.length l 0=ndL ns:=by unfold xOf;rw [if_pos rfl,List.take_length];rfl
 rw [e] at this
 exact this
theorem yj6 (ns:List Nd) (l:Ls) (hok:∀ n∈ns,n.Ok):goodD ns l=(decide ((programR ns).1=0)&&sameLs l (programR ns).2.2):=by
 unfold goodD;rw [zw4 ns hok]
theorem yj7 (v0 v1 v2 v3 v4 v5:Value) (ns:List Nd) (l:Ls) (w:World) (h:ProgIs w v0 v1 v2 v3 v4 v5 ns l) :
  Calls Tryz.prog 15 #[.agg #[v0,v1,v2,v3,v4,v5]] w fun e w'=>e=.returned (.bool (goodD ns l))/\Ok w w':=by
 have hok:=h.nodes.1
 rw [yj6 ns l hok]
 obtain ⟨pe,hpe⟩:=qq ((programR ns).1)
 obtain ⟨pi,hpi⟩:=qq ((programR ns).2.1)
 obtain ⟨m,hm⟩:=qq ((programR ns).2.2)
 have HPE:Hi (pe=(programR ns).1):=hpe
 have HPI:Hi (pi=(programR ns).2.1):=hpi
 have HM:Hi (m=(programR ns).2.2):=hm
 rw [<-hpe,<-hm]
 clear hpe hpi hm
 have HOK:Hi (∀ n∈ns,n.Ok):=hok
 obtain ⟨w0,hw0⟩:=qq (w.alloc (Obj.cells #[v0,v1,v2,v3,v4,v5] 30))
 have HB0:Hi (Ok w w0):=by rw [hw0];exact (Ok.refl w).alloc _
 have HA0:Hi (PC w0 w.heap.size v0 v1 v2 v3 v4 v5):=by rw [hw0];exact PC.new w v0 v1 v2 v3 v4 v5
 have HP0:Hi (ProgIs w0 v0 v1 v2 v3 v4 v5 ns l):=h.below HB0.o
 clear h hok
 go_enter Tryz.func15,Tryz.ntmps15
 go_wp2_with fail
 rw [<-hw0]
 clear hw0
 refine (zI1 v0 ns w0 HP0.o.nodes).mono ?_
 rintro e w1 ⟨u,rfl,hk,h0,h1⟩
 have HB1:Hi (Ok w w1):=HB0.o.step hk
 have HA1:Hi (PC w1 w.heap.size v0 v1 v2 v3 v4 v5):=HA0.o.below hk
 have HP1:Hi (ProgIs w1 v0 v1 v2 v3 v4 v5 ns l):=HP0.o.below hk
 have HU:Hi ((programR ns).1=0->PrIs w1 w0.heap.size u ns (programR ns).2.2):=h0
 have HZ:Hi ((programR ns).1≠0->∀ k,u k=.slice none 0 0):=h1
 clear hk h0 h1
 obtain ⟨z1,c0,c1,c2,c3,c4,c5⟩:=HA1.o
 rw [<-HPE.o,<-HM.o] at HU
 rw [<-HPE.o] at HZ
 rw [<-HPE.o,<-HPI.o]
 by_cases hp:pe=0
 ·have HP:Hi (PrIs w1 w0.heap.size u ns m):=HU.o hp
  subst hp
  clear HU HZ
  obtain ⟨o0,p0,e0⟩:=za0 (HP.o 0 (by decide))
  obtain ⟨o1,p1,e1⟩:=za0 (HP.o 1 (by decide))
  obtain ⟨o2,p2,e2⟩:=za0 (HP.o 2 (by decide))
  obtain ⟨o3,p3,e3⟩:=za0 (HP.o 3 (by decide))
  obtain ⟨o4,p4,e4⟩:=za0 (HP.o 4 (by decide))
  obtain ⟨o5,p5,e5⟩:=za0 (HP.o 5 (by decide))
  have HG:=HP.o.prog HOK.o
  rw [e0,e1,e2,e3,e4,e5] at HG
  have HGH:Hi (ProgIs w1 (.slice o0 (nOf ns.length m 0) p0) (.slice o1 (nOf ns.length m 1) p1) (.slice o2 (nOf ns.length m 2) p2) (.slice o3 (nOf ns.length m 3) p3) (.slice o4 (nOf ns.length m 4) p4) (.slice o5 (nOf ns.length m 5) p5) ns m):=HG
  rw [e0,e1,e2,e3,e4,e5]
  clear e0 e1 e2 e3 e4 e5 HG HP
  go_wp2_with fail
  refine (yj5 _ _ _ _ _ _ _ _ _ _ _ _ ns l m _ (HP1.o.below ((Ok.refl w1).alloc _)) (HGH.o.below ((Ok.refl w1).alloc _))).mono ?_
  rintro e w2 ⟨rfl,hk⟩
  have HB2:Hi (Ok w w2):=(HB1.o.alloc _).step hk
  clear hk
  go_wp2_with fail
  go_ret
  exact ⟨by simp,HB2.o⟩
 have hp2:(pe==0)=false:=by rw [beq_eq_false_iff_ne];exact hp
 have hd:decide (pe=0)=false:=decide_eq_false hp
 have hu:=HZ.o hp
 have HD:Hi (decide (pe=0)=false):=hd
 rw [hu 0,hu 1,hu 2,hu 3,hu 4,hu 5]
 clear hp hu HU HZ hd
 go_wp2_with fail
 go_ret
 exact ⟨by rw [HD.o];rfl,HB1.o.alloc _⟩
end
end Go.Proofs.YtbneneijdgcccaaGreatDoor
