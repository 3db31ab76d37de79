import Derived.Shelf.Strconv.Clone
import Derived.Test.YtpongdpnbclchaaGreatDoorProg
import Derived.Test.YtpongdpnbclchaaGreatDoorKGa
import Derived.Test.YtpongdpnbclchaaGreatDoorKPe
set_option maxHeartbeats 8000000
set_option linter.all false
set_option maxRecDepth 100000
namespace Go.Proofs.YtpongdpnbclchaaGreatDoor
variable{B gq n s:Nat}{e:TypeId}{l m:Ls}{ns:List Nd}{u0 u1 u2 u3 u4 u5 v:Value}{w x:World}{xs:List Value}
section
open Go.RowKit
theorem wq3(n:Nd)(w:World):(Op.equalIn 10000 78 (.agg #[nI n.depth,nI n.kind,.string n.name,nI n.num,nI n.op,nI n.pos]) (.agg #[nI n.depth,nI n.kind,.string n.name,nI n.num,nI n.op,nI n.pos])).run Tryz.prog w=.ok true w:=by rw[show(10000:Nat)=9999+1 from rfl,run_equalIn_agg w 9999 78 _ _ (by kernel_rfl) (by kernel_rfl)];simp only[Program.fieldsOf,Tryz.underlying78];go_simp
theorem wu1:Tryz.prog.eqGuardType Tryz.prog.depth 78=false:=by kernel_rfl
theorem zI2(h:AL EF l.sc m.sc=false):AY l m=false:=by unfold AY;rw[h];simp
theorem zI3(h:AL EM l.ar m.ar=false):AY l m=false:=by unfold AY;rw[h];simp
theorem yj2(h:AL DB l.sy m.sy=false):AY l m=false:=by unfold AY;rw[h];simp
theorem yj3(h:AL DB l.si m.si=false):AY l m=false:=by unfold AY;rw[h];simp
theorem yj4(h:AL DB l.so m.so=false):AY l m=false:=by unfold AY;rw[h];simp
theorem yj5(v0 v1 v2 v3 v4 v5 u0 u1 u2 u3 u4 u5:Value)(ns:List Nd)(l m:Ls)(w:World)(hp:BO w v0 v1 v2 v3 v4 v5 ns l)(hq:BO w u0 u1 u2 u3 u4 u5 ns m) :
  Calls Tryz.prog 47 #[.agg #[v0,v1,v2,v3,v4,v5],.agg #[u0,u1,u2,u3,u4,u5]] w λe w'=>e=.returned (.bool (AY l m))/\Ok w w':=by
 obtain⟨w0,hw0⟩:=qq ((w.alloc (Obj.cells #[v0,v1,v2,v3,v4,v5] 33)).alloc (Obj.cells #[u0,u1,u2,u3,u4,u5] 33));have HB0:Hi (Ok w w0):=by rw[hw0];exact((Ok.refl w).alloc _).alloc _
 have HA0:Hi (PC w0 w.heap.size v0 v1 v2 v3 v4 v5):=by rw[hw0];exact(PC.new w v0 v1 v2 v3 v4 v5).below ((Below.refl _ _).alloc (Nat.le_refl _) _)
 have HC0:Hi (PC w0 (w.heap.size+1) u0 u1 u2 u3 u4 u5):=by have:=PC.new (w.alloc (Obj.cells #[v0,v1,v2,v3,v4,v5] 33)) u0 u1 u2 u3 u4 u5;rw[show(w.alloc (Obj.cells #[v0,v1,v2,v3,v4,v5] 33)).heap.size=w.heap.size+1 from by simp]at this;unfold Hi;rw[hw0];exact this
 have HP0:=hid (hp.below HB0.o);have HQ0:=hid (hq.below HB0.o);obtain⟨_,x0,y0,rfl,_,hy0,_⟩:=hp.nodes;obtain⟨hx1,x1,y1,rfl,_⟩:=hp.lists.sc;obtain⟨hx2,x2,y2,rfl,_⟩:=hp.lists.ar;obtain⟨_,X0,Y0,rfl,_,hY0,_⟩:=hq.nodes;obtain⟨hX1,X1,Y1,rfl,_⟩:=hq.lists.sc;obtain⟨hX2,X2,Y2,rfl,_⟩:=hq.lists.ar;clear hp hq;unfold maxLen at hx1 hx2 hX1 hX2 hy0 hY0;by_cases h1:l.sc.length=m.sc.length
 case neg =>
  have HE:Hi (AY l m=false):=zI2 (zh7 _ _ _ h1);have b1:((l.sc.length:Int)==(m.sc.length:Int))=false:=by rw[beq_eq_false_iff_ne];omega
  have b1':((l.sc.length:Int) != (m.sc.length:Int))=true:=by rw[bne_iff_ne];omega
  clear h1;go_enter Tryz.func47,Tryz.ntmps47;go_wp2_with fail;rw[<-hw0];go_ret;exact⟨za4 HE.o.symm,HB0.o⟩
 by_cases h2:l.ar.length=m.ar.length
 case neg =>
  have HE:Hi (AY l m=false):=zI3 (zh7 _ _ _ h2);have b1:((l.sc.length:Int)==(m.sc.length:Int))=true:=by rw[h1];simp
  have b2:((l.ar.length:Int)==(m.ar.length:Int))=false:=by rw[beq_eq_false_iff_ne];omega
  have b2':((l.ar.length:Int) != (m.ar.length:Int))=true:=by rw[bne_iff_ne];omega
  have b1':((l.sc.length:Int) != (m.sc.length:Int))=false:=by rw[h1];simp
  clear h1 h2;go_enter Tryz.func47,Tryz.ntmps47;go_wp2_with fail;rw[<-hw0];go_ret;exact⟨za4 HE.o.symm,HB0.o⟩
 have HH:Hi (l.sc.length=m.sc.length/\l.ar.length=m.ar.length):=⟨h1,h2⟩;rw[h1,h2]at HP0 HA0 hw0 ⊢;clear h1 h2;go_enter Tryz.func47,Tryz.ntmps47;go_wp2_with fail;rw[<-hw0];clear hw0;refine mq (zu7 _ _ _ _ _ HP0.o.lists.sy HQ0.o.lists.sy) λw1 hb1=>?_;have HB1:=hid (HB0.o.step hb1);have HA1:Hi _:=HA0.o.below hb1;have HC1:Hi _:=HC0.o.below hb1;have HP1:Hi _:=HP0.o.below hb1;have HQ1:Hi _:=HQ0.o.below hb1;clear hb1 HP0 HQ0 HA0 HC0 HB0;have z4:=HA1.o.c4;have y4:=HC1.o.c4;cases h3:AL DB l.sy m.sy
 ·have HE:=hid (yj2 h3)
  go_wp2_with fail;go_ret;exact⟨za4 HE.o.symm,HB1.o⟩
 go_wp2_with fail;refine mq (zu7 _ _ _ _ _ HP1.o.lists.si HQ1.o.lists.si) λw2 hb2=>?_;have HB2:=hid (HB1.o.step hb2);have HA2:Hi _:=HA1.o.below hb2;have HC2:Hi _:=HC1.o.below hb2;have HP2:Hi _:=HP1.o.below hb2;have HQ2:Hi _:=HQ1.o.below hb2;clear hb2 HP1 HQ1 HA1 HC1 HB1 z4 y4;have z5:=HA2.o.c5;have y5:=HC2.o.c5;cases h4:AL DB l.si m.si
 ·have HE:=hid (yj3 h4)
  go_wp2_with fail;go_ret;exact⟨za4 HE.o.symm,HB2.o⟩
 go_wp2_with fail;refine mq (zu7 _ _ _ _ _ HP2.o.lists.so HQ2.o.lists.so) λw3 hb3=>?_;have HB3:=hid (HB2.o.step hb3);have HA3:Hi _:=HA2.o.below hb3;have HC3:Hi _:=HC2.o.below hb3;have HP3:Hi _:=HP2.o.below hb3;have HQ3:Hi _:=HQ2.o.below hb3;clear hb3 HP2 HQ2 HA2 HC2 HB2 z5 y5;cases h5:AL DB l.so m.so
 ·have HE:=hid (yj4 h5)
  go_wp2_with fail;go_ret;exact⟨za4 HE.o.symm,HB3.o⟩
 have HSM:Hi (AY l m=(AL EF l.sc m.sc&&AL EM l.ar m.ar)):=by unfold Hi AY;rw[h3,h4,h5];simp
 clear h3 h4 h5;have z0:=HA3.o.c0;have y0':=HC3.o.c0;go_wp2_with fail;go_loopw [5] (λt wr=>∃k:Nat,k<=ns.length/\t=nI k/\Hi (Ok w3 wr)) (λt _=>ns.length-(intOf t).toNat)
 case atStart=>exact⟨0,zL_ _,rfl,Ok.refl _⟩
 clear z0 y0';obtain⟨k,hk,rfl,HW⟩:=hrel;have HAw:Hi _:=HA3.o.below HW.o;have HCw:Hi _:=HC3.o.below HW.o;have z0:=HAw.o.c0;have y0':=HCw.o.c0;have ltA:=HAw.o.lt;have ltC:=HCw.o.lt;by_cases hlt:k<ns.length
 ·obtain⟨_,ao,cap,e1,_,_,hN⟩:=HP3.o.nodes
  injection e1 with e1 e2 e3;clear e2
  subst e1 e3;obtain⟨_,ao,cap,e1,_,_,hM⟩:=HQ3.o.nodes
  injection e1 with e1 e2 e3;clear e2
  subst e1 e3;have hne:ns≠[]:=λe=>by rw[e]at hlt;simp at hlt
  obtain⟨b1,o1,rfl,N1⟩:=hN.resolve_left hne;obtain⟨b2,o2,rfl,N2⟩:=hM.resolve_left hne;have M1:=N1.below HW.o;have M2:=N2.below HW.o;have hlt':(k:Int)<(ns.length:Int):=za5 hlt;have hkw:IntKind.i64.wrap ((k:Int)+1)=((k+1:Nat):Int):=zd3 oM oM;have c0:=M1.c0 k hlt;have c1:=M1.c1 k hlt;have c2:=M1.c2 k hlt;have c3:=M1.c3 k hlt;have c4:=M1.c4 k hlt;have c5:=M1.c5 k hlt;have d0:=M2.c0 k hlt;have d1:=M2.c1 k hlt;have d2:=M2.c2 k hlt;have d3:=M2.c3 k hlt;have d4:=M2.c4 k hlt;have d5:=M2.c5 k hlt;have l1:=M1.lt;have l2:=M2.lt;generalize ns[k]=x at *;have gq:=wu1;have eq1:∀w,(Op.equalIn 10000 78 (.agg #[nI x.depth,nI x.kind,.string x.name,nI x.num,nI x.op,nI x.pos]) (.agg #[nI x.depth,nI x.kind,.string x.name,nI x.num,nI x.op,nI x.pos])).run Tryz.prog w=.ok true w:=wq3 x;clear N1 N2 M1 M2 hN hM hne;go_wp2_with fail;go_quiet (fail);go_wp2_with fail;exact⟨⟨k+1,hlt,by go_num,(HW.o.alloc _).draws _⟩,by simp[intOf];omega⟩
 have hlt':¬(k:Int)<(ns.length:Int):=zb2 hlt;clear z0 y0';have z0:=HAw.o.c0;go_wp2_with fail;clear z0;obtain⟨w4,hw4⟩:=qq (wr);subst hw4;have z1:=HAw.o.c1;have y1':=HCw.o.c1;have HP4:Hi _:=HP3.o.below HW.o;have HQ4:Hi _:=HQ3.o.below HW.o;have HB4:=hid (HB3.o.step HW.o);have HCN:Hi (m.sc.length<=9223372036854775807/\m.ar.length<=9223372036854775807):=⟨hX1,hX2⟩;clear hlt' hk hlt HP3 HQ3 HB3;go_loopw [7] (λt wr=>∃k:Nat,k<=m.sc.length/\t=nI k/\Hi (AL EF l.sc m.sc=AL EF (l.sc.drop k) (m.sc.drop k))/\Hi (Ok w4 wr)) (λt _=>m.sc.length-(intOf t).toNat)
 case atStart=>exact⟨0,zL_ _,rfl,rfl,Ok.refl _⟩
 clear z1 y1';obtain⟨j,hj,rfl,HR,HV⟩:=hrel;have HAv:Hi _:=HAw.o.below HV.o;have HCv:Hi _:=HCw.o.below HV.o;have HPv:Hi _:=HP4.o.below HV.o;have HQv:Hi _:=HQ4.o.below HV.o;have HBv:=hid (HB4.o.step HV.o);have zz:=HAv.o.c1;have yy:=HCv.o.c1;have ltA:=HAv.o.lt;have ltC:=HCv.o.lt;by_cases hjl:j<m.sc.length
 ·obtain⟨_,ao,cap,e1,hN⟩:=HPv.o.lists.sc
  injection e1 with e1 e2 e3;clear e2
  subst e1 e3;obtain⟨_,ao,cap,e1,hM⟩:=HQv.o.lists.sc
  injection e1 with e1 e2 e3;clear e2
  subst e1 e3;have i1:j<l.sc.length:=by have:=HH.o.1;omega
  obtain⟨b1,o1,rfl,N1⟩:=hN.resolve_left (λe=>by rw[e]at i1;simp at i1);obtain⟨b2,o2,rfl,N2⟩:=hM.resolve_left (λe=>by rw[e]at hjl;simp at hjl);have hjl':(j:Int)<(m.sc.length:Int):=za5 hjl;have hjw:IntKind.i64.wrap ((j:Int)+1)=((j+1:Nat):Int):=zd3 oM (by have:=HCN.o.1;omega);have c0:=N1.c j i1;have d0:=N2.c j hjl
  skip
  skip
  have l1:=N1.lt;have l2:=N2.lt;have hr:=HR.o;rw[zh4 _ l.sc m.sc j i1 hjl]at hr;generalize l.sc[j]=x at *;generalize m.sc[j]=y at *;clear N1 N2 hN hM i1;cases hq:(EF x y)
  ·have HE:Hi (AY l m=false):=zI2 (by rw[hr,hq];rfl)
   clear hr HR;unfold EF at hq
   skip
   skip
   go_wp2_with fail;go_quiet (fail);go_wp2_with fail;go_ret;exact⟨za4 HE.o.symm,HBv.o.draws _⟩
  have HE:Hi (AL EF l.sc m.sc=AL EF (l.sc.drop (j+1)) (m.sc.drop (j+1))):=by unfold Hi;rw[hr,hq];rfl
  clear hr HR;unfold EF at hq
  skip
  skip
  go_wp2_with fail;go_quiet (fail);go_wp2_with fail;exact⟨⟨j+1,hjl,by go_num,HE,HV.o.draws _⟩,by simp[intOf];omega⟩
 have hjl':¬(j:Int)<(m.sc.length:Int):=zb2 hjl;have HT:Hi (AL EF l.sc m.sc=true):=by unfold Hi;rw[HR.o,List.drop_of_length_le (by have:=HH.o.1;omega),List.drop_of_length_le (by omega)];rfl
 have HTS:=hid HT.o;go_wp2_with fail;clear zz yy ltA ltC hjl' hjl hj;clear HAw HCw HP4 HQ4 HB4 HR HT HV HW;obtain⟨w5,hw5⟩:=qq (wr);subst hw5;have HAw:Hi _:=HAv.o;have HCw:Hi _:=HCv.o;have HP4:Hi _:=HPv.o;have HQ4:Hi _:=HQv.o;have HB4:=hid HBv.o;clear HAv HCv HPv HQv HBv;have z2:=HAw.o.c2;have y2':=HCw.o.c2;go_loopw [8] (λt wr=>∃k:Nat,k<=m.ar.length/\t=nI k/\Hi (AL EM l.ar m.ar=AL EM (l.ar.drop k) (m.ar.drop k))/\Hi (Ok w5 wr)) (λt _=>m.ar.length-(intOf t).toNat)
 case atStart=>exact⟨0,zL_ _,rfl,rfl,Ok.refl _⟩
 clear z2 y2';obtain⟨j,hj,rfl,HR,HV⟩:=hrel;have HAv:Hi _:=HAw.o.below HV.o;have HCv:Hi _:=HCw.o.below HV.o;have HPv:Hi _:=HP4.o.below HV.o;have HQv:Hi _:=HQ4.o.below HV.o;have HBv:=hid (HB4.o.step HV.o);have zz:=HAv.o.c2;have yy:=HCv.o.c2;have ltA:=HAv.o.lt;have ltC:=HCv.o.lt;by_cases hjl:j<m.ar.length
 ·obtain⟨_,ao,cap,e1,hN⟩:=HPv.o.lists.ar
  injection e1 with e1 e2 e3;clear e2
  subst e1 e3;obtain⟨_,ao,cap,e1,hM⟩:=HQv.o.lists.ar
  injection e1 with e1 e2 e3;clear e2
  subst e1 e3;have i1:j<l.ar.length:=by have:=HH.o.2;omega
  obtain⟨b1,o1,rfl,N1⟩:=hN.resolve_left (λe=>by rw[e]at i1;simp at i1);obtain⟨b2,o2,rfl,N2⟩:=hM.resolve_left (λe=>by rw[e]at hjl;simp at hjl);have hjl':(j:Int)<(m.ar.length:Int):=za5 hjl;have hjw:IntKind.i64.wrap ((j:Int)+1)=((j+1:Nat):Int):=zd3 oM (by have:=HCN.o.2;omega);have c0:=N1.c j i1;have d0:=N2.c j hjl;have c1:=N1.d j i1;have d1:=N2.d j hjl;have l1:=N1.lt;have l2:=N2.lt;have hr:=HR.o;rw[zh4 _ l.ar m.ar j i1 hjl]at hr;generalize l.ar[j]=x at *;generalize m.ar[j]=y at *;clear N1 N2 hN hM i1;cases hq:(EM x y)
  ·have HE:Hi (AY l m=false):=zI3 (by rw[hr,hq];rfl)
   clear hr HR;unfold EM at hq;have g76:=wn7;have e76:∀w,(Op.equalIn 10000 112 (.agg #[.string x.1,nI x.2]) (.agg #[.string y.1,nI y.2])).run Tryz.prog w=.ok false w:=λw=>by rw[wn6,hq]
   go_wp2_with fail;go_quiet (fail);go_wp2_with fail;go_ret;exact⟨za4 HE.o.symm,HBv.o.draws _⟩
  have HE:Hi (AL EM l.ar m.ar=AL EM (l.ar.drop (j+1)) (m.ar.drop (j+1))):=by unfold Hi;rw[hr,hq];rfl
  clear hr HR;unfold EM at hq;have g76:=wn7;have e76:∀w,(Op.equalIn 10000 112 (.agg #[.string x.1,nI x.2]) (.agg #[.string y.1,nI y.2])).run Tryz.prog w=.ok true w:=λw=>by rw[wn6,hq]
  go_wp2_with fail;go_quiet (fail);go_wp2_with fail;exact⟨⟨j+1,hjl,by go_num,HE,HV.o.draws _⟩,by simp[intOf];omega⟩
 have hjl':¬(j:Int)<(m.ar.length:Int):=zb2 hjl;have HT:Hi (AL EM l.ar m.ar=true):=by unfold Hi;rw[HR.o,List.drop_of_length_le (by have:=HH.o.2;omega),List.drop_of_length_le (by omega)];rfl
 have HE:Hi (AY l m=true):=by unfold Hi;rw[HSM.o,HTS.o,HT.o];rfl
 go_wp2_with fail;go_ret;exact⟨za4 HE.o.symm,HBv.o⟩
end
section
open Go.RowKit
theorem zM9(h:w.ownsRow B e s v n xs):n<=maxLen:=by
 rcases h.2 with ⟨_,h0⟩ | ⟨g,cap,cur,_,_,_,h1,h2,_⟩
 ·rw[h0];exact Nat.zero_le _
 omega
theorem zr4{g cap:Nat}(h:w.ownsRow B e s (.slice (sA g 0) n cap) n xs){j:Nat}{u:Value}(hj:xs[j]?=some u):w.cell? ⟨g,0+j,none⟩=some u:=by have:=h.cells (g:=g) rfl j u hj;rw[zb7]at this;exact this
theorem zC0(h:w.ownsRow B e s v n xs):∃ao cap,v=.slice ao n cap/\(n=0\/∃g,ao=some ⟨g,0,none⟩/\g<w.heap.size/\B<=g):=by
 have hh:=h;rcases h.2 with ⟨rfl,h0⟩ | ⟨g,cap,cur,rfl,hB,_⟩
 ·exact⟨none,0,by rw[h0],.inl h0⟩
 exact⟨_,cap,rfl,.inr ⟨g,rfl,(hh.lt g rfl).2,hB⟩⟩
theorem yC1{l:List ByteArray}(h:w.ownsRow B 9 1 v l.length (l.map λs=>.string s)):wi5 w v l:=by
 obtain⟨ao,cap,rfl,h1⟩:=zC0 h;refine⟨zM9 h,ao,cap,rfl,?_⟩;rcases h1 with h1 | ⟨g,rfl,hg,_⟩
 ·exact .inl (List.eq_nil_of_length_eq_zero h1)
 refine .inr ⟨g,0,rfl,hg,λi hi=>?_⟩;exact zr4 h (by rw[List.getElem?_map,List.getElem?_eq_getElem hi];rfl)
theorem zN0{l:List Int}(h:w.ownsRow B 3 1 v l.length (l.map λs=>nI s)):wd9 w v l:=by
 obtain⟨ao,cap,rfl,h1⟩:=zC0 h;refine⟨zM9 h,ao,cap,rfl,?_⟩;rcases h1 with h1 | ⟨g,rfl,hg,_⟩
 ·exact .inl (List.eq_nil_of_length_eq_zero h1)
 refine .inr ⟨g,0,rfl,hg,λi hi=>?_⟩;exact zr4 h (by rw[List.getElem?_map,List.getElem?_eq_getElem hi];rfl)
theorem zq1:∀{l:List (ByteArray×Int)} {i:Nat} {x:ByteArray×Int},l[i]?=some x->(l.flatMap λa=>[Value.string a.1,nI a.2])[i*2]?=some (.string x.1)/\(l.flatMap λa=>[Value.string a.1,nI a.2])[i*2+1]?=some (nI x.2)
 | [],i,x,h=>by simp at h
 | a::l,0,x,h=>by simp at h;subst h;exact⟨rfl,rfl⟩
 | a::l,i+1,x,h=>by rw[List.getElem?_cons_succ]at h;have:=zq1 h;rw[List.flatMap_cons,show(i+1)*2=i*2+1+1 by omega];exact this
theorem yC2{l:List (ByteArray×Int)}(h:w.ownsRow B 112 2 v l.length (l.flatMap λa=>[.string a.1,nI a.2])):wi7 w v l:=by
 obtain⟨ao,cap,rfl,h1⟩:=zC0 h;refine⟨zM9 h,ao,cap,rfl,?_⟩;rcases h1 with h1 | ⟨g,rfl,hg,_⟩
 ·exact .inl (List.eq_nil_of_length_eq_zero h1)
 refine .inr ⟨g,0,rfl,hg,λi hi=>?_,λi hi=>?_⟩
 ·exact zr4 h (zq1 (gG_ hi)).1
 exact zr4 h (zq1 (gG_ hi)).2
theorem BZ.prog{u:Nat->Value}(h:BZ w B u ns l)(hok:∀n∈ns,n.Ok):BO w (u 0) (u 1) (u 2) (u 3) (u 4) (u 5) ns l:=by
 refine⟨NL.snds (B:=B) ?_ hok,yC1 (B:=B) (h 1 dC),yC2 (B:=B) (h 2 dC),zN0 (B:=B) (h 3 dC),zN0 (B:=B) (h 4 dC),zN0 (B:=B) (h 5 dC)⟩;have:=h 0 dC;have e:xOf ns ns.length l 0=ndL ns:=by unfold xOf;rw[if_pos rfl,List.take_length];rfl
 rw[e]at this;exact this
theorem yj6(ns:List Nd)(l:Ls)(hok:∀n∈ns,n.Ok):CY ns l=(decide ((AC ns).1=0)&&AY l (AC ns).2.2):=by unfold CY;rw[zw4 ns hok]
theorem yj7(v0 v1 v2 v3 v4 v5:Value)(ns:List Nd)(l:Ls)(w:World)(h:BO w v0 v1 v2 v3 v4 v5 ns l) :
  Calls Tryz.prog 23 #[.agg #[v0,v1,v2,v3,v4,v5]] w λe w'=>e=.returned (.bool (CY ns l))/\Ok w w':=by
 have hok:=h.nodes.1;rw[yj6 ns l hok];obtain⟨pe,hpe⟩:=qq ((AC ns).1);obtain⟨pi,hpi⟩:=qq ((AC ns).2.1);obtain⟨m,hm⟩:=qq ((AC ns).2.2);have HPE:Hi (pe=(AC ns).1):=hpe;have HPI:Hi (pi=(AC ns).2.1):=hpi;have HM:Hi (m=(AC ns).2.2):=hm;rw[<-hpe,<-hm];clear hpe hpi hm;have HOK:=hid hok;obtain⟨w0,hw0⟩:=qq (w.alloc (Obj.cells #[v0,v1,v2,v3,v4,v5] 33));have HB0:Hi (Ok w w0):=by rw[hw0];exact(Ok.refl w).alloc _
 have HA0:Hi (PC w0 w.heap.size v0 v1 v2 v3 v4 v5):=by rw[hw0];exact PC.new w v0 v1 v2 v3 v4 v5
 have HP0:=hid (h.below HB0.o);clear h hok;go_enter Tryz.func23,Tryz.ntmps23;go_wp2_with fail;rw[<-hw0];clear hw0;refine(zI1 v0 ns w0 HP0.o.nodes).mono ?_;rintro e w1 ⟨u,rfl,hk,h0,h1⟩;have HB1:=hid (HB0.o.step hk);have HA1:=hid (HA0.o.below hk);have HP1:=hid (HP0.o.below hk);have HU:Hi ((AC ns).1=0->BZ w1 w0.heap.size u ns (AC ns).2.2):=λh=>(h0 h).1;have HZ:=hid h1;clear hk h0 h1;obtain⟨z1,c0,c1,c2,c3,c4,c5⟩:=HA1.o;rw[<-HPE.o,<-HM.o]at HU;rw[<-HPE.o]at HZ;rw[<-HPE.o,<-HPI.o];by_cases hp:pe=0
 ·have HP:=hid (HU.o hp)
  subst hp;clear HU HZ;obtain⟨o0,p0,e0⟩:=za0 (HP.o 0 dC);obtain⟨o1,p1,e1⟩:=za0 (HP.o 1 dC);obtain⟨o2,p2,e2⟩:=za0 (HP.o 2 dC);obtain⟨o3,p3,e3⟩:=za0 (HP.o 3 dC);obtain⟨o4,p4,e4⟩:=za0 (HP.o 4 dC);obtain⟨o5,p5,e5⟩:=za0 (HP.o 5 dC);have HG:=HP.o.prog HOK.o;rw[e0,e1,e2,e3,e4,e5]at HG;have HGH:=hid HG;rw[e0,e1,e2,e3,e4,e5];clear e0 e1 e2 e3 e4 e5 HG HP;go_wp2_with fail;refine mq (yj5 _ _ _ _ _ _ _ _ _ _ _ _ ns l m _ (HP1.o.below ((Ok.refl w1).alloc _)) (HGH.o.below ((Ok.refl w1).alloc _))) λw2 hk=>?_;have HB2:Hi (Ok w w2):=(HB1.o.alloc _).step hk;clear hk;go_wp2_with fail;go_ret;exact⟨by simp,HB2.o⟩
 have hp2:(pe==0)=false:=by rw[beq_eq_false_iff_ne];exact hp
 have hd:decide (pe=0)=false:=dF_ hp;have hu:=HZ.o hp;have HD:=hid hd;rw[hu 0,hu 1,hu 2,hu 3,hu 4,hu 5];clear hp hu HU HZ hd;go_wp2_with fail;go_ret;exact⟨by rw[HD.o];rfl,HB1.o.alloc _⟩
end
section
section
open Go.Shelf
def Tryz.laysM316_ren:Go.Shelf.Ren:=⟨fun | 316=>148 | n=>n,fun | 9=>9 | 3=>3 | 4=>4 | 37=>246 | 0=>0 | 127=>247 | 5=>5 | n=>n,fun | n=>n⟩
theorem Tryz.laysM316:Go.Proofs.LaysM.n316 Tryz.prog Tryz.laysM316_ren:={
 mixed:=by kernel_rfl
 f316:=Tryz.func148.trans (congrArg some kR)
 t0:=Tryz.underlying0
 a0:=Tryz.isAgg0
 z0:=Tryz.sizeOf0
 v0:=Tryz.zeroValue0
 t3:=Tryz.underlying3
 a3:=Tryz.isAgg3
 z3:=Tryz.sizeOf3
 v3:=Tryz.zeroValue3
 t4:=Tryz.underlying4
 a4:=Tryz.isAgg4
 z4:=Tryz.sizeOf4
 v4:=Tryz.zeroValue4
 t9:=Tryz.underlying9
 a9:=Tryz.isAgg9
 z9:=Tryz.sizeOf9
 v9:=Tryz.zeroValue9
 t37:=Tryz.underlying246
 a37:=Tryz.isAgg246
 z37:=Tryz.sizeOf246
 v37:=Tryz.zeroValue246
 t127:=Tryz.underlying247
 a127:=Tryz.isAgg247
 z127:=Tryz.sizeOf247
 v127:=Tryz.zeroValue247
 t5:=Tryz.underlying5
 a5:=Tryz.isAgg5
 z5:=Tryz.sizeOf5
 v5:=Tryz.zeroValue5
 i0:=by kernel_rfl
 i3:=by kernel_rfl
 i4:=by kernel_rfl
 i5:=by kernel_rfl
 i9:=by kernel_rfl
 i37:=by kernel_rfl
 i127:=by kernel_rfl }
open Go.RowKit in
theorem Tryz.stringslite_Clone (s:ByteArray) (w:World) (hlim:s.size<=281474976710656) :
  Calls Tryz.prog 148 #[.string s] w λe w'=>e=.returned (.string s)/\Below w.heap.size w w':=Any.stringslite_Clone Tryz.laysM316 s w hlim
end
end
section
open Go.RowKit
theorem zp0(t ty e:TypeId)(i:TypeInfo)(c:Nat)(w:World)(ht:Tryz.prog.underlying t=some (.slice e))(hi:Tryz.prog.info? e=some i) :
  (Builtin.append_ #[t,t] ty #[sZ,.slice none 0 c]).run Tryz.prog w=.ok (sZ) w:=by
 simp[Builtin.append_,run_underlying ht,sizeOf,typeInfo,hi,Builtin.lenOf,Builtin.firstCells]
theorem zf7{ops:Array Oper}{rest:List Oper}{op:Oper}{a:Act}{Q:Exit->Act->World->Prop}(hgd:op.guard=none)(s x:Operand)(lT eT:TypeId)(sz bts:Nat)(z:Value)
  (ho:op.op=.call { callee:=.builtin .append,args:=#[s,x],argTypes:=#[lT,lT] })
  (hund:Tryz.prog.underlying lT=some (.slice eT)) (hinf:(Tryz.prog.info? eT).map (λi=>(i.zero,i.size,i.bytes))=some (some z,sz,bts)) (hzc:z.cells.size=sz) (hsz:0<sz) (hbt:bts<=56)
  (base:Nat) (hs:a.eval s=sZ) (v:Value) (n:Nat) (xs:List Value) (hx:a.eval x=v) (hT:SL w sz v n xs)
  (hb:n<=1000000) (hbase:base<=w.heap.size)
  (h:∀v' w',w'.ownsRow base eT sz v' n xs->Ok w w'->wpList Tryz.prog ops Q rest (a.put op.dst v') w'):wpList Tryz.prog ops Q (op::rest) a w:=by
 obtain⟨i,hi,hz,hsi,hby⟩:=zg6 hinf;obtain⟨h0,h1,ao,cap,rfl,h2⟩:=hT
 cases ao with
 | none =>
  have hn:n=0:=by
   rcases h2 with h2 | ⟨b,o,e,_⟩
   ·exact h2
   cases e
  subst hn;have hxs:xs=[]:=List.eq_nil_of_length_eq_zero oM;subst hxs;refine wpList_plain hgd λK hK=>?_;have hrun:=zp0 lT op.type eT i cap w hund hi;unfold Oper.wp;simp[execOp,ho,resolve,invoke,builtin,hs,hx,hrun,Result.andThen];exact hK _ _ (h _ _ (World.ownsRow_nil _ _ _ _) (Ok.refl w))
 | some ad =>
  by_cases hn:n=0
  ·subst hn
   have hxs:xs=[]:=List.eq_nil_of_length_eq_zero oM;subst hxs;refine wpList_append_own_at w hgd s x lT ho base eT i z sz bts hund hi hz hsi hby hzc hsz _ 0 [] hs (World.ownsRow_nil _ _ _ _) ad 0 cap [] hx (by simp) (by intro j u hj;simp at hj) (by simp) (by unfold maxLen;omega) oM hbase ?_;intro v' w' k1 k2 k3 k4;exact h v' w' k1 (Ok.grown0 k2)
  obtain⟨b,o,e,hl,hc⟩:=h2.resolve_left hn;cases e;refine wpList_append_own_at w hgd s x lT ho base eT i z sz bts hund hi hz hsi hby hzc hsz _ 0 [] hs (World.ownsRow_nil _ _ _ _) ⟨b,o,none⟩ n cap xs hx h0 (by intro j u hj;rw[zb7];exact hc j u hj) h1 (by unfold maxLen;omega) (by have:(0+n)*bts<=1000000*56:=Nat.mul_le_mul (by omega) hbt;omega) hbase ?_;intro v' w' k1 k2 k3 k4;rw[Nat.zero_add,List.nil_append]at k1;exact h v' w' k1 (Ok.grown0 k2)
theorem ws3:(Tryz.prog.info? 78).map (λi=>(i.zero,i.size,i.bytes))=some (some (.agg #[nI 0,nI 0,.string ⟨#[]⟩,nI 0,nI 0,nI 0]),6,56):=by kernel_rfl
theorem zW7(v:Value)(n:Nat)(xs:List Value)(w:World)(h:SL w 6 v n xs)(hn:n<=1000000) :
  Calls Tryz.prog 119 #[v] w λe w'=>∃v',e=.returned v'/\w'.ownsRow w.heap.size 78 6 v' n xs/\Ok w w':=by
 have H:=hid h;obtain⟨_,_,ao,cap,rfl,_⟩:=h;go_enter Tryz.func119,Tryz.ntmps119
 go_wp2_with (first
  |(at_builtin;refine zf7 rfl _ _ 29 78 6 56 _ rfl Tryz.underlying29 ws3 (by rfl) dC dC w.heap.size (by rfl) _ n xs (by rfl) H.o hn (nR_ _) ?_;intro v' w' k1 k2;have HK:Hi (w'.ownsRow w.heap.size 78 6 v' n xs/\Ok w w'):=⟨k1,k2⟩;clear k1 k2)
  | fail)
 go_ret;exact⟨_,rfl,HK.o.1,HK.o.2⟩
theorem ws4:(Tryz.prog.info? 9).map (λi=>(i.zero,i.size,i.bytes))=some (some (.string ⟨#[]⟩),1,16):=by kernel_rfl
theorem zW8(v:Value)(n:Nat)(xs:List Value)(w:World)(h:SL w 1 v n xs)(hn:n<=1000000) :
  Calls Tryz.prog 120 #[v] w λe w'=>∃v',e=.returned v'/\w'.ownsRow w.heap.size 9 1 v' n xs/\Ok w w':=by
 have H:=hid h;obtain⟨_,_,ao,cap,rfl,_⟩:=h;go_enter Tryz.func120,Tryz.ntmps120
 go_wp2_with (first
  |(at_builtin;refine zf7 rfl _ _ 30 9 1 16 _ rfl Tryz.underlying30 ws4 (by rfl) dC dC w.heap.size (by rfl) _ n xs (by rfl) H.o hn (nR_ _) ?_;intro v' w' k1 k2;have HK:Hi (w'.ownsRow w.heap.size 9 1 v' n xs/\Ok w w'):=⟨k1,k2⟩;clear k1 k2)
  | fail)
 go_ret;exact⟨_,rfl,HK.o.1,HK.o.2⟩
theorem ws5:(Tryz.prog.info? 112).map (λi=>(i.zero,i.size,i.bytes))=some (some (.agg #[.string ⟨#[]⟩,nI 0]),2,24):=by kernel_rfl
theorem zW9(v:Value)(n:Nat)(xs:List Value)(w:World)(h:SL w 2 v n xs)(hn:n<=1000000) :
  Calls Tryz.prog 121 #[v] w λe w'=>∃v',e=.returned v'/\w'.ownsRow w.heap.size 112 2 v' n xs/\Ok w w':=by
 have H:=hid h;obtain⟨_,_,ao,cap,rfl,_⟩:=h;go_enter Tryz.func121,Tryz.ntmps121
 go_wp2_with (first
  |(at_builtin;refine zf7 rfl _ _ 31 112 2 24 _ rfl Tryz.underlying31 ws5 (by rfl) dC dC w.heap.size (by rfl) _ n xs (by rfl) H.o hn (nR_ _) ?_;intro v' w' k1 k2;have HK:Hi (w'.ownsRow w.heap.size 112 2 v' n xs/\Ok w w'):=⟨k1,k2⟩;clear k1 k2)
  | fail)
 go_ret;exact⟨_,rfl,HK.o.1,HK.o.2⟩
theorem wn0:(Tryz.prog.info? 3).map (λi=>(i.zero,i.size,i.bytes))=some (some (nI 0),1,8):=by kernel_rfl
theorem zq2(v:Value)(n:Nat)(xs:List Value)(w:World)(h:SL w 1 v n xs)(hn:n<=1000000) :
  Calls Tryz.prog 122 #[v] w λe w'=>∃v',e=.returned v'/\w'.ownsRow w.heap.size 3 1 v' n xs/\Ok w w':=by
 have H:=hid h;obtain⟨_,_,ao,cap,rfl,_⟩:=h;go_enter Tryz.func122,Tryz.ntmps122
 go_wp2_with (first
  |(at_builtin;refine zf7 rfl _ _ 25 3 1 8 _ rfl Tryz.underlying25 wn0 (by rfl) dC dC w.heap.size (by rfl) _ n xs (by rfl) H.o hn (nR_ _) ?_;intro v' w' k1 k2;have HK:Hi (w'.ownsRow w.heap.size 3 1 v' n xs/\Ok w w'):=⟨k1,k2⟩;clear k1 k2)
  | fail)
 go_ret;exact⟨_,rfl,HK.o.1,HK.o.2⟩
end
section
open Go.RowKit
structure PL6(w:World)(v0 v1 v2 v3 v4 v5:Value)(ns:List Nd)(l:Ls):Prop where
 nd:SL w 6 v0 ns.length (ndL ns)
 sc:SL w 1 v1 l.sc.length (l.sc.map λs=>.string s)
 ar:SL w 2 v2 l.ar.length (l.ar.flatMap λa=>[.string a.1,nI a.2])
 sy:SL w 1 v3 l.sy.length (l.sy.map λs=>nI s)
 si:SL w 1 v4 l.si.length (l.si.map λs=>nI s)
 so:SL w 1 v5 l.so.length (l.so.map λs=>nI s)
theorem PL6.below{w1:World}{v0 v1 v2 v3 v4 v5:Value}(h:PL6 w v0 v1 v2 v3 v4 v5 ns l)(hb:Ok w w1):PL6 w1 v0 v1 v2 v3 v4 v5 ns l:=⟨h.nd.below hb,h.sc.below hb,h.ar.below hb,h.sy.below hb,h.si.below hb,h.so.below hb⟩
structure Bd6(ns:List Nd)(l:Ls):Prop where
 nd:ns.length<=1000
 sc:l.sc.length<=1000
 ar:l.ar.length<=1000
 sy:l.sy.length<=1000
 si:l.si.length<=1000
 so:l.so.length<=1000
 nm:∀n∈ns,n.name.size<=281474976710656
 sn:∀s∈l.sc,s.size<=281474976710656
 an:∀a∈l.ar,a.1.size<=281474976710656
theorem zm5{b o:Nat}{u:Value}(h:w.cell? (aD b o)=some u):w.setCell (aD b o) u=w:=by
 have hh:(w.setCell (aD b o) u).heap=w.heap:=by
  apply Array.ext_getElem?;intro i;by_cases e:i=b
  ·subst e
   unfold World.cell? at h;simp only[World.setCell,Array.getElem?_modify,if_true]
   cases e2:w.heap[i]? with
   | none=>rfl
   | some x =>
    rw[e2]at h
    cases x with
    | cells c elem frozen =>
     simp only[Option.isSome_none,Bool.false_eq_true,if_false]at h;obtain⟨h3,h4⟩:=Array.getElem?_eq_some_iff.1 h
     have hc:c.setIfInBounds o u=c:=by
      apply Array.ext_getElem?;intro j;rw[Array.getElem?_setIfInBounds]
      split
      ·next e3 =>
       subst e3
       first | exact h.symm | (rw[if_pos h3,h])
      rfl
     simp[hc]
    | _=>rfl
  exact Below.heap_setCell _ _ _ _ e
 cases w;unfold World.setCell at hh ⊢;simp only at hh ⊢;rw[hh]
theorem zq3(s:ByteArray)(w:World)(hs:s.size<=281474976710656):Calls Tryz.prog 123 #[.string s] w λe w'=>e=.returned (.string s)/\Ok w w':=by
 go_enter Tryz.func123,Tryz.ntmps123
 go_wp2_with (first|(go_at_call 148;refine mq (Tryz.stringslite_Clone s _ hs) λw1 hb=>?_;have HB:=hid hb;clear hb)|fail)
 go_ret;exact⟨rfl,HB.o⟩
def wl4(u0 u1 u2 u3 u4 u5:Value)(k:Nat):Value:=if k=0 then u0 else if k=1 then u1 else if k=2 then u2 else if k=3 then u3 else if k=4 then u4 else u5
theorem BZ.of6(h0:w.ownsRow B 78 6 u0 ns.length (ndL ns))(h1:w.ownsRow B 9 1 u1 l.sc.length (l.sc.map λs=>.string s))(h2:w.ownsRow B 112 2 u2 l.ar.length (l.ar.flatMap λa=>[.string a.1,nI a.2]))(h3:w.ownsRow B 3 1 u3 l.sy.length (l.sy.map λs=>nI s))(h4:w.ownsRow B 3 1 u4 l.si.length (l.si.map λs=>nI s))(h5:w.ownsRow B 3 1 u5 l.so.length (l.so.map λs=>nI s)):BZ w B (wl4 u0 u1 u2 u3 u4 u5) ns l:=by
 intro k hk;have e:xOf ns ns.length l 0=ndL ns:=by unfold xOf;rw[if_pos rfl,List.take_length];rfl
 rcases(show k=0\/k=1\/k=2\/k=3\/k=4\/k=5 by omega) with rfl | rfl | rfl | rfl | rfl | rfl
 ·rw[e];exact h0
 ·exact h1
 ·exact h2
 ·exact h3
 ·exact h4
 exact h5
theorem zb5{a0 a1 a2 a3 a4 a5:Value}(h:x.ownsRow B e s v n xs)(he:e≠33)(hs:Six x gq a0 a1 a2 a3 a4 a5)(b0 b1 b2 b3 b4 b5:Value) :
  ((((((x.setCell (aD gq 0) b0).setCell (aD gq 1) b1).setCell (aD gq 2) b2).setCell (aD gq 3) b3).setCell (aD gq 4) b4).setCell (aD gq 5) b5).ownsRow B e s v n xs:=by
 refine zb4 h λb hb=>?_
 have hne:b≠gq:=by
  intro e';subst e';rcases h.2 with ⟨rfl,_⟩ | ⟨g,cap,cur,rfl,_,hg,_⟩
  ·cases hb
  have:b=g:=by have:=Option.some.inj hb;exact this.symm
  subst this;have h2:=hg.symm.trans hs.heap
  injection h2 with h2
  injection h2 with _ h3 _
  exact he h3
 rw[Below.heap_setCell _ ⟨gq,5,none⟩ b5 b hne,Below.heap_setCell _ ⟨gq,4,none⟩ b4 b hne,Below.heap_setCell _ ⟨gq,3,none⟩ b3 b hne,Below.heap_setCell _ ⟨gq,2,none⟩ b2 b hne,Below.heap_setCell _ ⟨gq,1,none⟩ b1 b hne,Below.heap_setCell _ ⟨gq,0,none⟩ b0 b hne]
theorem zn4{gr:Nat}{c0 c1 c2 c3 c4 c5:Value}(h:Six x gr c0 c1 c2 c3 c4 c5)(hne:gr≠gq)(b0 b1 b2 b3 b4 b5:Value) :
  Six ((((((x.setCell (aD gq 0) b0).setCell (aD gq 1) b1).setCell (aD gq 2) b2).setCell (aD gq 3) b3).setCell (aD gq 4) b4).setCell (aD gq 5) b5) gr c0 c1 c2 c3 c4 c5:=by
 constructor;rw[Below.heap_setCell _ ⟨gq,5,none⟩ b5 gr hne,Below.heap_setCell _ ⟨gq,4,none⟩ b4 gr hne,Below.heap_setCell _ ⟨gq,3,none⟩ b3 gr hne,Below.heap_setCell _ ⟨gq,2,none⟩ b2 gr hne,Below.heap_setCell _ ⟨gq,1,none⟩ b1 gr hne,Below.heap_setCell _ ⟨gq,0,none⟩ b0 gr hne];exact h.heap
theorem wp2(k:Nat)(hk:k<6):TY k≠33:=by rcases(show k=0\/k=1\/k=2\/k=3\/k=4\/k=5 by omega) with rfl | rfl | rfl | rfl | rfl | rfl<;>decide
theorem BZ.nd0(h:BZ w B (wl4 u0 u1 u2 u3 u4 u5) ns l):w.ownsRow B 78 6 u0 ns.length (ndL ns):=by
 have:=h 0 dC;have e:xOf ns ns.length l 0=ndL ns:=by unfold xOf;rw[if_pos rfl,List.take_length];rfl
 rw[e]at this;exact this
theorem zN1{b:Nat}{a0 a1 a2 a3 a4 a5:Value}(h:x.ownsRow B e s v n xs)(he:e≠33)(hs:Six x gq a0 a1 a2 a3 a4 a5)(hb:v.ownBlock=some b):¬b=gq:=by
 intro e';subst e';rcases h.2 with ⟨rfl,_⟩ | ⟨g,cap,cur,rfl,_,hg,_⟩
 ·cases hb
 have:b=g:=by have:=Option.some.inj hb;exact this.symm
 subst this;have h2:=hg.symm.trans hs.heap
 injection h2 with h2
 injection h2 with _ h3 _
 exact he h3
def Ap(u:Nat->Value):Prop:=∀j k,3<=j->j<k->k<6->∀b c,(u j).ownBlock=some b->(u k).ownBlock=some c->b<c
theorem wh1{x3 x4:World}{n3 n4:Nat}{l3 l4:List Value}(h3:x3.ownsRow B 3 1 u3 n3 l3)(h4:x4.ownsRow B 3 1 u4 n4 l4)(m4:∀b,u4.ownBlock=some b->x3.heap.size<=b)(m5:∀b,u5.ownBlock=some b->x4.heap.size<=b)(hk:x3.heap.size<=x4.heap.size):Ap (wl4 u0 u1 u2 u3 u4 u5):=by
 intro j k hj hjk hk6 b c hb hc;rcases(show(j=3/\k=4)\/(j=3/\k=5)\/(j=4/\k=5) by omega) with ⟨rfl,rfl⟩ | ⟨rfl,rfl⟩ | ⟨rfl,rfl⟩
 ·have h1:=(h3.lt b hb).2;have h2:=m4 c hc;omega
 ·have h1:=(h3.lt b hb).2;have h2:=m5 c hc;omega
 have h1:=(h4.lt b hb).2;have h2:=m5 c hc;omega
structure OwF(w Y:World)(gq:Nat)(u0 u1 u2 u3 u4 u5:Value)(ns:List Nd)(l:Ls):Prop where
 six:Six Y gq u0 u1 u2 u3 u4 u5
 res:Six Y (w.heap.size+1) (sZ) (sZ) (sZ) (sZ) (sZ) (sZ)
 ne:gq≠w.heap.size+1
 ge:w.heap.size<=gq
 ok:Ok w Y
 pr:BZ Y w.heap.size (wl4 u0 u1 u2 u3 u4 u5) ns l
 ap:Ap (wl4 u0 u1 u2 u3 u4 u5)
end
end Go.Proofs.YtpongdpnbclchaaGreatDoor
