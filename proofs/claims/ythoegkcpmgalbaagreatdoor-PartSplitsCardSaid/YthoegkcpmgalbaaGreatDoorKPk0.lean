import Derived.Shelf.Strconv.Clone
import Derived.Test.YthoegkcpmgalbaaGreatDoorProg
import Derived.Test.YthoegkcpmgalbaaGreatDoorKGm
import Derived.Test.YthoegkcpmgalbaaGreatDoorKPe
set_option maxHeartbeats 8000000
set_option linter.all false
set_option maxRecDepth 100000
namespace Go.Proofs.YthoegkcpmgalbaaGreatDoor
open Go.RowKit Go.Shelf
variable{B gq n s:Nat}{e:TypeId}{l m:Ls}{ns:List Nd}{u0 u1 u2 u3 u4 u5 v:Value}{w x:World}{xs:List Value}
def ws2(n:Nd)(w:World):(Op.equalIn 10000 53 (.agg #[nI n.depth,nI n.kind,.string n.name,nI n.num,nI n.op,nI n.pos]) (.agg #[nI n.depth,nI n.kind,.string n.name,nI n.num,nI n.op,nI n.pos])).run Tryz.prog w=.ok true w:=by rw[show(10000:Nat)=9999+1 from rfl,run_equalIn_agg w 9999 53 _ _ (by kernel_rfl) (by kernel_rfl)];simp only[Program.fieldsOf,Tryz.underlying53];go_simp
def wv6:Tryz.prog.eqGuardType Tryz.prog.depth 53=false:=by kernel_rfl
def zI2(h:AJ EL l.sc m.sc=false):AY l m=false:=by unfold AY;rw[h];simp
def zI3(h:AJ EO l.ar m.ar=false):AY l m=false:=by unfold AY;rw[h];simp
def yj2(h:AJ DE l.sy m.sy=false):AY l m=false:=by unfold AY;rw[h];simp
def yj3(h:AJ DE l.si m.si=false):AY l m=false:=by unfold AY;rw[h];simp
def yj4(h:AJ DE l.so m.so=false):AY l m=false:=by unfold AY;rw[h];simp
def yj5(v0 v1 v2 v3 v4 v5 u0 u1 u2 u3 u4 u5:Value)(ns:List Nd)(l m:Ls)(w:World)(I:BV w v0 v1 v2 v3 v4 v5 ns l)(L:BV w u0 u1 u2 u3 u4 u5 ns m) :
  Calls Tryz.prog 6 #[.agg #[v0,v1,v2,v3,v4,v5],.agg #[u0,u1,u2,u3,u4,u5]] w λe w'=>e=.returned (.bool (AY l m))/\Ok w w':=by
 obtain⟨w0,D⟩:=qq ((w.alloc (Obj.cells #[v0,v1,v2,v3,v4,v5] 30)).alloc (Obj.cells #[u0,u1,u2,u3,u4,u5] 30));have G:Hi (Ok w w0):=by rw[D];exact((Ok.refl w).alloc _).alloc _
 have O:Hi (PC w0 w.heap.size v0 v1 v2 v3 v4 v5):=by rw[D];exact(PC.new w v0 v1 v2 v3 v4 v5).below ((Below.refl _ _).alloc (aK _) _)
 have b5:Hi (PC w0 (w.heap.size+1) u0 u1 u2 u3 u4 u5):=by have:=PC.new (w.alloc (Obj.cells #[v0,v1,v2,v3,v4,v5] 30)) u0 u1 u2 u3 u4 u5;rw[show(w.alloc (Obj.cells #[v0,v1,v2,v3,v4,v5] 30)).heap.size=w.heap.size+1 from by simp]at this;unfold Hi;rw[D];exact this
 have J:=hid (I.below G.o);have Y:=hid (L.below G.o);obtain⟨_,x0,y0,rfl,_,f1,_⟩:=I.nodes;obtain⟨c8,x1,y1,rfl,_⟩:=I.lists.sc;obtain⟨f3,x2,y2,rfl,_⟩:=I.lists.ar;obtain⟨_,X0,Y0,rfl,_,d6,_⟩:=L.nodes;obtain⟨b7,X1,Y1,rfl,_⟩:=L.lists.sc;obtain⟨b3,X2,Y2,rfl,_⟩:=L.lists.ar;clear I L;unfold maxLen at c8 f3 b7 b3 f1 d6;by_cases K:l.sc.length=m.sc.length
 case neg =>
  have I:Hi (AY l m=false):=zI2 (zh7 _ _ _ K);have b1:((l.sc.length:Int)==(m.sc.length:Int))=false:=by rw[aF];omega
  have d9:((l.sc.length:Int) != (m.sc.length:Int))=true:=by rw[dO];omega
  clear K;go_enter Tryz.func6,Tryz.ntmps6;go_wp2_with fail;rw[<-D];go_ret;exact⟨za4 I.o.symm,G.o⟩
 by_cases R:l.ar.length=m.ar.length
 case neg =>
  have I:Hi (AY l m=false):=zI3 (zh7 _ _ _ R);have b1:((l.sc.length:Int)==(m.sc.length:Int))=true:=by rw[K];simp
  have b2:((l.ar.length:Int)==(m.ar.length:Int))=false:=by rw[aF];omega
  have W:((l.ar.length:Int) != (m.ar.length:Int))=true:=by rw[dO];omega
  have d9:((l.sc.length:Int) != (m.sc.length:Int))=false:=by rw[K];simp
  clear K R;go_enter Tryz.func6,Tryz.ntmps6;go_wp2_with fail;rw[<-D];go_ret;exact⟨za4 I.o.symm,G.o⟩
 have HH:Hi (l.sc.length=m.sc.length/\l.ar.length=m.ar.length):=⟨K,R⟩;rw[K,R]at J O D ⊢;clear K R;go_enter Tryz.func6,Tryz.ntmps6;go_wp2_with fail;rw[<-D];clear D;refine mq (zu7 _ _ _ _ _ J.o.lists.sy Y.o.lists.sy) λw1 D=>?_;have X:=hid (G.o.step D);have W:Hi _:=O.o.below D;have Z:Hi _:=b5.o.below D;have R:Hi _:=J.o.below D;have K:Hi _:=Y.o.below D;clear D J Y O b5 G;have z4:=W.o.c4;have y4:=Z.o.c4;cases h3:AJ DE l.sy m.sy
 ·have I:=hid (yj2 h3)
  go_wp2_with fail;go_ret;exact⟨za4 I.o.symm,X.o⟩
 go_wp2_with fail;refine mq (zu7 _ _ _ _ _ R.o.lists.si K.o.lists.si) λw2 D=>?_;have O:=hid (X.o.step D);have b0:Hi _:=W.o.below D;have G:Hi _:=Z.o.below D;have Y:Hi _:=R.o.below D;have J:Hi _:=K.o.below D;clear D R K W Z X z4 y4;have W:=b0.o.c5;have R:=G.o.c5;cases K:AJ DE l.si m.si
 ·have I:=hid (yj3 K)
  go_wp2_with fail;go_ret;exact⟨za4 I.o.symm,O.o⟩
 go_wp2_with fail;refine mq (zu7 _ _ _ _ _ Y.o.lists.so J.o.lists.so) λw3 D=>?_;have Z:=hid (O.o.step D);have b6:Hi _:=b0.o.below D;have b4:Hi _:=G.o.below D;have X:Hi _:=Y.o.below D;have a7:Hi _:=J.o.below D;clear D Y J b0 G O W R;cases D:AJ DE l.so m.so
 ·have I:=hid (yj4 D)
  go_wp2_with fail;go_ret;exact⟨za4 I.o.symm,Z.o⟩
 have c7:Hi (AY l m=(AJ EL l.sc m.sc&&AJ EO l.ar m.ar)):=by unfold Hi AY;rw[h3,K,D];simp
 clear h3 K D;have z0:=b6.o.c0;have a8:=b4.o.c0;go_wp2_with fail;go_loopw [5] (λt wr=>∃k:Nat,k<=ns.length/\t=nI k/\Hi (Ok w3 wr)) (λt _=>ns.length-(intOf t).toNat)
 case atStart=>exact⟨0,zL_ _,rfl,Ok.refl _⟩
 clear z0 a8;obtain⟨k,hk,rfl,HW⟩:=hrel;have J:Hi _:=b6.o.below HW.o;have K:Hi _:=b4.o.below HW.o;have z0:=J.o.c0;have a8:=K.o.c0;have a6:=J.o.lt;have a9:=K.o.lt;by_cases D:k<ns.length
 ·obtain⟨_,ao,cap,G,_,_,hN⟩:=X.o.nodes
  injection G with G e2 e3;clear e2
  subst G e3;obtain⟨_,ao,cap,G,_,_,hM⟩:=a7.o.nodes
  injection G with G e2 e3;clear e2
  subst G e3;have Y:ns≠[]:=λe=>by rw[e]at D;simp at D
  obtain⟨b1,o1,rfl,N1⟩:=hN.resolve_left Y;obtain⟨b2,o2,rfl,N2⟩:=hM.resolve_left Y;have W:=N1.below HW.o;have O:=N2.below HW.o;have R:(k:Int)<(ns.length:Int):=za5 D;have f5:IntKind.i64.wrap ((k:Int)+1)=((k+1:Nat):Int):=zd3 oM oM;have c0:=W.c0 k D;have c1:=W.c1 k D;have c2:=W.c2 k D;have c3:=W.c3 k D;have c4:=W.c4 k D;have c5:=W.c5 k D;have d0:=O.c0 k D;have d1:=O.c1 k D;have d2:=O.c2 k D;have d3:=O.c3 k D;have d4:=O.c4 k D;have d5:=O.c5 k D;have l1:=W.lt;have l2:=O.lt;generalize ns[k]=x at *;have gq:=wv6;have f4:∀w,(Op.equalIn 10000 53 (.agg #[nI x.depth,nI x.kind,.string x.name,nI x.num,nI x.op,nI x.pos]) (.agg #[nI x.depth,nI x.kind,.string x.name,nI x.num,nI x.op,nI x.pos])).run Tryz.prog w=.ok true w:=ws2 x;clear N1 N2 W O hN hM Y;go_wp2_with fail;go_quiet (fail);go_wp2_with fail;exact⟨⟨k+1,D,by go_num,(HW.o.alloc _).draws _⟩,by simp[intOf];omega⟩
 have R:¬(k:Int)<(ns.length:Int):=zb2 D;clear z0 a8;have z0:=J.o.c0;go_wp2_with fail;clear z0;obtain⟨w4,c6⟩:=qq (wr);subst c6;have W:=J.o.c1;have O:=K.o.c1;have a5:Hi _:=X.o.below HW.o;have a4:Hi _:=a7.o.below HW.o;have a3:=hid (Z.o.step HW.o);have b8:Hi (m.sc.length<=9223372036854775807/\m.ar.length<=9223372036854775807):=⟨b7,b3⟩;clear R hk D X a7 Z;go_loopw [7] (λt wr=>∃k:Nat,k<=m.sc.length/\t=nI k/\Hi (AJ EL l.sc m.sc=AJ EL (l.sc.drop k) (m.sc.drop k))/\Hi (Ok w4 wr)) (λt _=>m.sc.length-(intOf t).toNat)
 case atStart=>exact⟨0,zL_ _,rfl,rfl,Ok.refl _⟩
 clear W O;obtain⟨j,hj,rfl,HR,W⟩:=hrel;have R:Hi _:=J.o.below W.o;have O:Hi _:=K.o.below W.o;have a1:Hi _:=a5.o.below W.o;have a2:Hi _:=a4.o.below W.o;have Y:=hid (a3.o.step W.o);have zz:=R.o.c1;have yy:=O.o.c1;have a6:=R.o.lt;have a9:=O.o.lt;by_cases D:j<m.sc.length
 ·obtain⟨_,ao,cap,G,hN⟩:=a1.o.lists.sc
  injection G with G e2 e3;clear e2
  subst G e3;obtain⟨_,ao,cap,G,hM⟩:=a2.o.lists.sc
  injection G with G e2 e3;clear e2
  subst G e3;have Z:j<l.sc.length:=oH HH.o.1
  obtain⟨b1,o1,rfl,N1⟩:=hN.resolve_left (λe=>by rw[e]at Z;simp at Z);obtain⟨b2,o2,rfl,N2⟩:=hM.resolve_left (λe=>by rw[e]at D;simp at D);have X:(j:Int)<(m.sc.length:Int):=za5 D;have b9:IntKind.i64.wrap ((j:Int)+1)=((j+1:Nat):Int):=zd3 oM (oH b8.o.1);have c0:=N1.c j Z;have d0:=N2.c j D
  skip
  skip
  have l1:=N1.lt;have l2:=N2.lt;have hr:=HR.o;rw[zh4 _ l.sc m.sc j Z D]at hr;generalize l.sc[j]=x at *;generalize m.sc[j]=y at *;clear N1 N2 hN hM Z;cases L:(EL x y)
  ·have I:Hi (AY l m=false):=zI2 (by rw[hr,L];rfl)
   clear hr HR;unfold EL at L
   skip
   skip
   go_wp2_with fail;go_quiet (fail);go_wp2_with fail;go_ret;exact⟨za4 I.o.symm,Y.o.draws _⟩
  have I:Hi (AJ EL l.sc m.sc=AJ EL (l.sc.drop (j+1)) (m.sc.drop (j+1))):=by unfold Hi;rw[hr,L];rfl
  clear hr HR;unfold EL at L
  skip
  skip
  go_wp2_with fail;go_quiet (fail);go_wp2_with fail;exact⟨⟨j+1,D,by go_num,I,W.o.draws _⟩,by simp[intOf];omega⟩
 have X:¬(j:Int)<(m.sc.length:Int):=zb2 D;have HT:Hi (AJ EL l.sc m.sc=true):=by unfold Hi;rw[HR.o,aU (oH HH.o.1),aU oM];rfl
 have f0:=hid HT.o;go_wp2_with fail;clear zz yy a6 a9 X D hj;clear J K a5 a4 a3 HR HT W HW;obtain⟨w5,f2⟩:=qq (wr);subst f2;have J:Hi _:=R.o;have K:Hi _:=O.o;have a5:Hi _:=a1.o;have a4:Hi _:=a2.o;have a3:=hid Y.o;clear R O a1 a2 Y;have z2:=J.o.c2;have c9:=K.o.c2;go_loopw [8] (λt wr=>∃k:Nat,k<=m.ar.length/\t=nI k/\Hi (AJ EO l.ar m.ar=AJ EO (l.ar.drop k) (m.ar.drop k))/\Hi (Ok w5 wr)) (λt _=>m.ar.length-(intOf t).toNat)
 case atStart=>exact⟨0,zL_ _,rfl,rfl,Ok.refl _⟩
 clear z2 c9;obtain⟨j,hj,rfl,HR,W⟩:=hrel;have R:Hi _:=J.o.below W.o;have O:Hi _:=K.o.below W.o;have a1:Hi _:=a5.o.below W.o;have a2:Hi _:=a4.o.below W.o;have Y:=hid (a3.o.step W.o);have zz:=R.o.c2;have yy:=O.o.c2;have a6:=R.o.lt;have a9:=O.o.lt;by_cases D:j<m.ar.length
 ·obtain⟨_,ao,cap,G,hN⟩:=a1.o.lists.ar
  injection G with G e2 e3;clear e2
  subst G e3;obtain⟨_,ao,cap,G,hM⟩:=a2.o.lists.ar
  injection G with G e2 e3;clear e2
  subst G e3;have Z:j<l.ar.length:=oH HH.o.2
  obtain⟨b1,o1,rfl,N1⟩:=hN.resolve_left (λe=>by rw[e]at Z;simp at Z);obtain⟨b2,o2,rfl,N2⟩:=hM.resolve_left (λe=>by rw[e]at D;simp at D);have X:(j:Int)<(m.ar.length:Int):=za5 D;have b9:IntKind.i64.wrap ((j:Int)+1)=((j+1:Nat):Int):=zd3 oM (oH b8.o.2);have c0:=N1.c j Z;have d0:=N2.c j D;have c1:=N1.d j Z;have d1:=N2.d j D;have l1:=N1.lt;have l2:=N2.lt;have hr:=HR.o;rw[zh4 _ l.ar m.ar j Z D]at hr;generalize l.ar[j]=x at *;generalize m.ar[j]=y at *;clear N1 N2 hN hM Z;cases L:(EO x y)
  ·have I:Hi (AY l m=false):=zI3 (by rw[hr,L];rfl)
   clear hr HR;unfold EO at L;have d7:=wp2;have d8:∀w,(Op.equalIn 10000 55 (.agg #[.string x.1,nI x.2]) (.agg #[.string y.1,nI y.2])).run Tryz.prog w=.ok false w:=λw=>by rw[wp1,L]
   go_wp2_with fail;go_quiet (fail);go_wp2_with fail;go_ret;exact⟨za4 I.o.symm,Y.o.draws _⟩
  have I:Hi (AJ EO l.ar m.ar=AJ EO (l.ar.drop (j+1)) (m.ar.drop (j+1))):=by unfold Hi;rw[hr,L];rfl
  clear hr HR;unfold EO at L;have d7:=wp2;have d8:∀w,(Op.equalIn 10000 55 (.agg #[.string x.1,nI x.2]) (.agg #[.string y.1,nI y.2])).run Tryz.prog w=.ok true w:=λw=>by rw[wp1,L]
  go_wp2_with fail;go_quiet (fail);go_wp2_with fail;exact⟨⟨j+1,D,by go_num,I,W.o.draws _⟩,by simp[intOf];omega⟩
 have X:¬(j:Int)<(m.ar.length:Int):=zb2 D;have HT:Hi (AJ EO l.ar m.ar=true):=by unfold Hi;rw[HR.o,aU (oH HH.o.2),aU oM];rfl
 have I:Hi (AY l m=true):=by unfold Hi;rw[c7.o,f0.o,HT.o];rfl
 go_wp2_with fail;go_ret;exact⟨za4 I.o.symm,Y.o⟩
def zM9(h:w.ownsRow B e s v n xs):n<=maxLen:=by
 rcases h.2 with ⟨_,d⟩ | ⟨g,cap,o,_,_,_,D,G,_⟩
 ·rw[d];exact dQ _
 omega
def zr4{g cap:Nat}(h:w.ownsRow B e s (.slice (sA g 0) n cap) n xs){j:Nat}{u:Value}(d:xs[j]?=some u):w.cell? ⟨g,0+j,none⟩=some u:=by have:=h.cells (g:=g) rfl j u d;rw[zb7]at this;exact this
def zC0(h:w.ownsRow B e s v n xs):∃o cap,v=.slice o n cap/\(n=0\/∃g,o=some ⟨g,0,none⟩/\g<w.heap.size/\B<=g):=by
 have I:=h;rcases h.2 with ⟨rfl,d⟩ | ⟨g,cap,D,rfl,G,_⟩
 ·exact⟨none,0,by rw[d],.inl d⟩
 exact⟨_,cap,rfl,.inr ⟨g,rfl,(I.lt g rfl).2,G⟩⟩
def yC1{l:List ByteArray}(h:w.ownsRow B 9 1 v l.length (l.map λs=>.string s)):wi6 w v l:=by
 obtain⟨o,cap,rfl,d⟩:=zC0 h;refine⟨zM9 h,o,cap,rfl,?_⟩;rcases d with d | ⟨g,rfl,hg,_⟩
 ·exact .inl (aW d)
 refine .inr ⟨g,0,rfl,hg,λi D=>?_⟩;exact zr4 h (by rw[aX,aJ D];rfl)
def zN0{l:List Int}(h:w.ownsRow B 3 1 v l.length (l.map λs=>nI s)):wd8 w v l:=by
 obtain⟨o,cap,rfl,d⟩:=zC0 h;refine⟨zM9 h,o,cap,rfl,?_⟩;rcases d with d | ⟨g,rfl,hg,_⟩
 ·exact .inl (aW d)
 refine .inr ⟨g,0,rfl,hg,λi D=>?_⟩;exact zr4 h (by rw[aX,aJ D];rfl)
def zq1:∀{l:List (ByteArray×Int)} {i:Nat} {x:ByteArray×Int},l[i]?=some x->(l.flatMap λa=>[Value.string a.1,nI a.2])[i*2]?=some (.string x.1)/\(l.flatMap λa=>[Value.string a.1,nI a.2])[i*2+1]?=some (nI x.2)
 | [],i,x,h=>by simp at h
 | a::l,0,x,h=>by simp at h;subst h;exact⟨rfl,rfl⟩
 | a::l,i+1,x,h=>by rw[bF]at h;have:=zq1 h;rw[eV,show(i+1)*2=i*2+1+1 by omega];exact this
def yC2{l:List (ByteArray×Int)}(h:w.ownsRow B 55 2 v l.length (l.flatMap λa=>[.string a.1,nI a.2])):wi8 w v l:=by
 obtain⟨D,cap,rfl,d⟩:=zC0 h;refine⟨zM9 h,D,cap,rfl,?_⟩;rcases d with d | ⟨g,rfl,hg,_⟩
 ·exact .inl (aW d)
 refine .inr ⟨g,0,rfl,hg,λi o=>?_,λi o=>?_⟩
 ·exact zr4 h (zq1 (gG_ o)).1
 exact zr4 h (zq1 (gG_ o)).2
def AG.prog{u:Nat->Value}(h:AG w B u ns l)(d:∀n∈ns,n.Ok):BV w (u 0) (u 1) (u 2) (u 3) (u 4) (u 5) ns l:=by
 refine⟨NL.snds (B:=B) ?_ d,yC1 (B:=B) (h 1 dC),yC2 (B:=B) (h 2 dC),zN0 (B:=B) (h 3 dC),zN0 (B:=B) (h 4 dC),zN0 (B:=B) (h 5 dC)⟩;have:=h 0 dC;have e:xOf ns ns.length l 0=ndL ns:=by unfold xOf;rw[aG rfl,cH];rfl
 rw[e]at this;exact this
def yj6(ns:List Nd)(l:Ls)(d:∀n∈ns,n.Ok):DG ns l=(decide ((AA ns).1=0)&&AY l (AA ns).2.2):=by unfold DG;rw[zw4 ns d]
def yj7(v0 v1 v2 v3 v4 v5:Value)(ns:List Nd)(l:Ls)(w:World)(h:BV w v0 v1 v2 v3 v4 v5 ns l) :
  Calls Tryz.prog 29 #[.agg #[v0,v1,v2,v3,v4,v5]] w λe w'=>e=.returned (.bool (DG ns l))/\Ok w w':=by
 have G:=h.nodes.1;rw[yj6 ns l G];obtain⟨W,d⟩:=qq ((AA ns).1);obtain⟨pi,I⟩:=qq ((AA ns).2.1);obtain⟨m,J⟩:=qq ((AA ns).2.2);have D:Hi (W=(AA ns).1):=d;have Y:Hi (pi=(AA ns).2.1):=I;have HM:Hi (m=(AA ns).2.2):=J;rw[<-d,<-J];clear d I J;have a2:=hid G;obtain⟨w0,d⟩:=qq (w.alloc (Obj.cells #[v0,v1,v2,v3,v4,v5] 30));have J:Hi (Ok w w0):=by rw[d];exact(Ok.refl w).alloc _
 have X:Hi (PC w0 w.heap.size v0 v1 v2 v3 v4 v5):=by rw[d];exact PC.new w v0 v1 v2 v3 v4 v5
 have L:=hid (h.below J.o);clear h G;go_enter Tryz.func29,Tryz.ntmps29;go_wp2_with fail;rw[<-d];clear d;refine(zI1 v0 ns w0 L.o.nodes).mono ?_;rintro e w1 ⟨u,rfl,G,d,I⟩;have K:=hid (J.o.step G);have a4:=hid (X.o.below G);have a1:=hid (L.o.below G);have O:Hi ((AA ns).1=0->AG w1 w0.heap.size u ns (AA ns).2.2):=λh=>(d h).1;have R:=hid I;clear G d I;obtain⟨z1,c0,c1,c2,c3,c4,c5⟩:=a4.o;rw[<-D.o,<-HM.o]at O;rw[<-D.o]at R;rw[<-D.o,<-Y.o];by_cases I:W=0
 ·have d:=hid (O.o I)
  subst I;clear O R;obtain⟨o0,p0,e0⟩:=za0 (d.o 0 dC);obtain⟨o1,p1,e1⟩:=za0 (d.o 1 dC);obtain⟨o2,p2,e2⟩:=za0 (d.o 2 dC);obtain⟨o3,p3,Z⟩:=za0 (d.o 3 dC);obtain⟨o4,p4,e4⟩:=za0 (d.o 4 dC);obtain⟨o5,p5,e5⟩:=za0 (d.o 5 dC);have HG:=d.o.prog a2.o;rw[e0,e1,e2,Z,e4,e5]at HG;have a3:=hid HG;rw[e0,e1,e2,Z,e4,e5];clear e0 e1 e2 Z e4 e5 HG d;go_wp2_with fail;refine mq (yj5 _ _ _ _ _ _ _ _ _ _ _ _ ns l m _ (a1.o.below ((Ok.refl w1).alloc _)) (a3.o.below ((Ok.refl w1).alloc _))) λZ G=>?_;have d:Hi (Ok w Z):=(K.o.alloc _).step G;clear G;go_wp2_with fail;go_ret;exact⟨by simp,d.o⟩
 have a5:(W==0)=false:=by rw[aF];exact I
 have Z:decide (W=0)=false:=dF_ I;have d:=R.o I;have HD:=hid Z;rw[d 0,d 1,d 2,d 3,d 4,d 5];clear I d O R Z;go_wp2_with fail;go_ret;exact⟨by rw[HD.o];rfl,K.o.alloc _⟩
def Tryz.laysM316_ren:Go.Shelf.Ren:=⟨fun | 316=>163 | n=>n,fun | 9=>9 | 3=>3 | 4=>4 | 37=>245 | 0=>0 | 127=>273 | 5=>5 | n=>n,fun | n=>n⟩
def Tryz.laysM316:Go.Proofs.LaysM.n316 Tryz.prog Tryz.laysM316_ren:={
 mixed:=by kernel_rfl
 f316:=Tryz.func163.trans (cA some kR)
 t0:=Tryz.underlying0
 a0:=Tryz.isAgg0
 z0:=Tryz.sizeOf0
 v0:=Tryz.zeroValue0
 t3:=Tryz.underlying3
 a3:=Tryz.isAgg3
 z3:=Tryz.sizeOf3
 v3:=Tryz.zeroValue3
 t4:=Tryz.underlying4
 a4:=Tryz.isAgg4
 z4:=Tryz.sizeOf4
 v4:=Tryz.zeroValue4
 t9:=Tryz.underlying9
 a9:=Tryz.isAgg9
 z9:=Tryz.sizeOf9
 v9:=Tryz.zeroValue9
 t37:=Tryz.underlying245
 a37:=Tryz.isAgg245
 z37:=Tryz.sizeOf245
 v37:=Tryz.zeroValue245
 t127:=Tryz.underlying273
 a127:=Tryz.isAgg273
 z127:=Tryz.sizeOf273
 v127:=Tryz.zeroValue273
 t5:=Tryz.underlying5
 a5:=Tryz.isAgg5
 z5:=Tryz.sizeOf5
 v5:=Tryz.zeroValue5
 i0:=by kernel_rfl
 i3:=by kernel_rfl
 i4:=by kernel_rfl
 i5:=by kernel_rfl
 i9:=by kernel_rfl
 i37:=by kernel_rfl
 i127:=by kernel_rfl }
open Go.RowKit in
def Tryz.stringslite_Clone (s:ByteArray) (w:World) (hlim:s.size<=281474976710656) :
  Calls Tryz.prog 163 #[.string s] w λe w'=>e=.returned (.string s)/\Below w.heap.size w w':=Any.stringslite_Clone Tryz.laysM316 s w hlim
def zp0(t ty e:TypeId)(i:TypeInfo)(c:Nat)(w:World)(d:Tryz.prog.underlying t=some (.slice e))(o:Tryz.prog.info? e=some i) :
  (Builtin.append_ #[t,t] ty #[sZ,.slice none 0 c]).run Tryz.prog w=.ok (sZ) w:=by
 simp[Builtin.append_,run_underlying d,sizeOf,typeInfo,o,Builtin.lenOf,Builtin.firstCells]
def zf7{ops:Array Oper}{I:List Oper}{op:Oper}{a:Act}{Q:Exit->Act->World->Prop}(O:op.guard=none)(s x:Operand)(W R:TypeId)(L G:Nat)(z:Value)
  (ho:op.op=.call { callee:=.builtin .append,args:=#[s,x],argTypes:=#[W,W] })
  (d:Tryz.prog.underlying W=some (.slice R)) (Z:(Tryz.prog.info? R).map (λi=>(i.zero,i.size,i.bytes))=some (some z,L,G)) (a2:z.cells.size=L) (a4:0<L) (a5:G<=56)
  (base:Nat) (hs:a.eval s=sZ) (v:Value) (n:Nat) (xs:List Value) (hx:a.eval x=v) (hT:SL w L v n xs)
  (hb:n<=1000000) (D:base<=w.heap.size)
  (h:∀X w',w'.ownsRow base R L X n xs->Ok w w'->wpList Tryz.prog ops Q I (a.put op.dst X) w'):wpList Tryz.prog ops Q (op::I) a w:=by
 obtain⟨i,hi,hz,a1,Y⟩:=zg6 Z;obtain⟨h0,h1,ao,cap,rfl,h2⟩:=hT
 cases ao with
 | none =>
  have hn:n=0:=by
   rcases h2 with h2 | ⟨b,o,e,_⟩
   ·exact h2
   cases e
  subst hn;have J:xs=[]:=aW oM;subst J;refine wpList_plain O λK hK=>?_;have a3:=zp0 W op.type R i cap w d hi;unfold Oper.wp;simp[execOp,ho,resolve,invoke,builtin,hs,hx,a3,Result.andThen];exact hK _ _ (h _ _ (World.ownsRow_nil _ _ _ _) (Ok.refl w))
 | some ad =>
  by_cases hn:n=0
  ·subst hn
   have J:xs=[]:=aW oM;subst J;refine wpList_append_own_at w O s x W ho base R i z L G d hi hz a1 Y a2 a4 _ 0 [] hs (World.ownsRow_nil _ _ _ _) ad 0 cap [] hx (by simp) (by intro j u hj;simp at hj) (by simp) (by unfold maxLen;omega) oM D ?_;intro X w' K k2 k3 k4;exact h X w' K (Ok.grown0 k2)
  obtain⟨b,o,e,hl,hc⟩:=h2.resolve_left hn;cases e;refine wpList_append_own_at w O s x W ho base R i z L G d hi hz a1 Y a2 a4 _ 0 [] hs (World.ownsRow_nil _ _ _ _) ⟨b,o,none⟩ n cap xs hx h0 (by intro j u hj;rw[zb7];exact hc j u hj) h1 (by unfold maxLen;omega) (by have:(0+n)*G<=1000000*56:=eI oM a5;omega) D ?_;intro X w' K k2 k3 k4;rw[aL,cV]at K;exact h X w' K (Ok.grown0 k2)
def wu0:(Tryz.prog.info? 53).map (λi=>(i.zero,i.size,i.bytes))=some (some (.agg #[nI 0,nI 0,.string ⟨#[]⟩,nI 0,nI 0,nI 0]),6,56):=by kernel_rfl
def zW7(v:Value)(n:Nat)(xs:List Value)(w:World)(h:SL w 6 v n xs)(J:n<=1000000) :
  Calls Tryz.prog 126 #[v] w λe w'=>∃d,e=.returned d/\w'.ownsRow w.heap.size 53 6 d n xs/\Ok w w':=by
 have H:=hid h;obtain⟨_,_,K,cap,rfl,_⟩:=h;go_enter Tryz.func126,Tryz.ntmps126
 go_wp2_with (first
  |(at_builtin;refine zf7 rfl _ _ 25 53 6 56 _ rfl Tryz.underlying25 wu0 (by rfl) dC dC w.heap.size (by rfl) _ n xs (by rfl) H.o J (nR_ _) ?_;intro d w' G D;have I:Hi (w'.ownsRow w.heap.size 53 6 d n xs/\Ok w w'):=⟨G,D⟩;clear G D)
  | fail)
 go_ret;exact⟨_,rfl,I.o.1,I.o.2⟩
def wu1:(Tryz.prog.info? 9).map (λi=>(i.zero,i.size,i.bytes))=some (some (.string ⟨#[]⟩),1,16):=by kernel_rfl
def zW8(v:Value)(n:Nat)(xs:List Value)(w:World)(h:SL w 1 v n xs)(J:n<=1000000) :
  Calls Tryz.prog 127 #[v] w λe w'=>∃d,e=.returned d/\w'.ownsRow w.heap.size 9 1 d n xs/\Ok w w':=by
 have H:=hid h;obtain⟨_,_,K,cap,rfl,_⟩:=h;go_enter Tryz.func127,Tryz.ntmps127
 go_wp2_with (first
  |(at_builtin;refine zf7 rfl _ _ 26 9 1 16 _ rfl Tryz.underlying26 wu1 (by rfl) dC dC w.heap.size (by rfl) _ n xs (by rfl) H.o J (nR_ _) ?_;intro d w' G D;have I:Hi (w'.ownsRow w.heap.size 9 1 d n xs/\Ok w w'):=⟨G,D⟩;clear G D)
  | fail)
 go_ret;exact⟨_,rfl,I.o.1,I.o.2⟩
def wu2:(Tryz.prog.info? 55).map (λi=>(i.zero,i.size,i.bytes))=some (some (.agg #[.string ⟨#[]⟩,nI 0]),2,24):=by kernel_rfl
def zW9(v:Value)(n:Nat)(xs:List Value)(w:World)(h:SL w 2 v n xs)(J:n<=1000000) :
  Calls Tryz.prog 128 #[v] w λe w'=>∃d,e=.returned d/\w'.ownsRow w.heap.size 55 2 d n xs/\Ok w w':=by
 have H:=hid h;obtain⟨_,_,K,cap,rfl,_⟩:=h;go_enter Tryz.func128,Tryz.ntmps128
 go_wp2_with (first
  |(at_builtin;refine zf7 rfl _ _ 27 55 2 24 _ rfl Tryz.underlying27 wu2 (by rfl) dC dC w.heap.size (by rfl) _ n xs (by rfl) H.o J (nR_ _) ?_;intro d w' G D;have I:Hi (w'.ownsRow w.heap.size 55 2 d n xs/\Ok w w'):=⟨G,D⟩;clear G D)
  | fail)
 go_ret;exact⟨_,rfl,I.o.1,I.o.2⟩
def wo2:(Tryz.prog.info? 3).map (λi=>(i.zero,i.size,i.bytes))=some (some (nI 0),1,8):=by kernel_rfl
def zq2(v:Value)(n:Nat)(xs:List Value)(w:World)(h:SL w 1 v n xs)(J:n<=1000000) :
  Calls Tryz.prog 129 #[v] w λe w'=>∃d,e=.returned d/\w'.ownsRow w.heap.size 3 1 d n xs/\Ok w w':=by
 have H:=hid h;obtain⟨_,_,K,cap,rfl,_⟩:=h;go_enter Tryz.func129,Tryz.ntmps129
 go_wp2_with (first
  |(at_builtin;refine zf7 rfl _ _ 28 3 1 8 _ rfl Tryz.underlying28 wo2 (by rfl) dC dC w.heap.size (by rfl) _ n xs (by rfl) H.o J (nR_ _) ?_;intro d w' G D;have I:Hi (w'.ownsRow w.heap.size 3 1 d n xs/\Ok w w'):=⟨G,D⟩;clear G D)
  | fail)
 go_ret;exact⟨_,rfl,I.o.1,I.o.2⟩
structure PL6(w:World)(v0 v1 v2 v3 v4 v5:Value)(ns:List Nd)(l:Ls):Prop where
 nd:SL w 6 v0 ns.length (ndL ns)
 sc:SL w 1 v1 l.sc.length (l.sc.map λs=>.string s)
 ar:SL w 2 v2 l.ar.length (l.ar.flatMap λa=>[.string a.1,nI a.2])
 sy:SL w 1 v3 l.sy.length (l.sy.map λs=>nI s)
 si:SL w 1 v4 l.si.length (l.si.map λs=>nI s)
 so:SL w 1 v5 l.so.length (l.so.map λs=>nI s)
structure Bd6(ns:List Nd)(l:Ls):Prop where
 nd:ns.length<=1000
 sc:l.sc.length<=1000
 ar:l.ar.length<=1000
 sy:l.sy.length<=1000
 si:l.si.length<=1000
 so:l.so.length<=1000
 nm:∀n∈ns,n.name.size<=281474976710656
 sn:∀s∈l.sc,s.size<=281474976710656
 an:∀a∈l.ar,a.1.size<=281474976710656
def zm5{b o:Nat}{u:Value}(h:w.cell? (aD b o)=some u):w.setCell (aD b o) u=w:=by
 have d:(w.setCell (aD b o) u).heap=w.heap:=by
  apply gM;intro i;by_cases e:i=b
  ·subst e
   unfold World.cell? at h;simp only[World.setCell,Array.getElem?_modify,dD]
   cases G:w.heap[i]? with
   | none=>rfl
   | some x =>
    rw[G]at h
    cases x with
    | cells c elem frozen =>
     simp only[Option.isSome_none,bL,cT]at h;obtain⟨I,J⟩:=cZ.1 h
     have D:c.setIfInBounds o u=c:=by
      apply gM;intro j;rw[fZ]
      split
      ·next e3 =>
       subst e3
       first | exact h.symm | (rw[aG I,h])
      rfl
     simp[D]
    | _=>rfl
  exact Below.heap_setCell _ _ _ _ e
 cases w;unfold World.setCell at d ⊢;simp only at d ⊢;rw[d]
def zq3(s:ByteArray)(w:World)(D:s.size<=281474976710656):Calls Tryz.prog 130 #[.string s] w λe w'=>e=.returned (.string s)/\Ok w w':=by
 go_enter Tryz.func130,Tryz.ntmps130
 go_wp2_with (first|(go_at_call 163;refine mq (Tryz.stringslite_Clone s _ D) λI d=>?_;have G:=hid d;clear d)|fail)
 go_ret;exact⟨rfl,G.o⟩
def wm4(u0 u1 u2 u3 u4 u5:Value)(k:Nat):Value:=if k=0 then u0 else if k=1 then u1 else if k=2 then u2 else if k=3 then u3 else if k=4 then u4 else u5
def AG.of6(h0:w.ownsRow B 53 6 u0 ns.length (ndL ns))(D:w.ownsRow B 9 1 u1 l.sc.length (l.sc.map λs=>.string s))(o:w.ownsRow B 55 2 u2 l.ar.length (l.ar.flatMap λa=>[.string a.1,nI a.2]))(I:w.ownsRow B 3 1 u3 l.sy.length (l.sy.map λs=>nI s))(d:w.ownsRow B 3 1 u4 l.si.length (l.si.map λs=>nI s))(G:w.ownsRow B 3 1 u5 l.so.length (l.so.map λs=>nI s)):AG w B (wm4 u0 u1 u2 u3 u4 u5) ns l:=by
 intro k J;have e:xOf ns ns.length l 0=ndL ns:=by unfold xOf;rw[aG rfl,cH];rfl
 rcases(show k=0\/k=1\/k=2\/k=3\/k=4\/k=5 by omega) with rfl | rfl | rfl | rfl | rfl | rfl
 ·rw[e];exact h0
 ·exact D
 ·exact o
 ·exact I
 ·exact d
 exact G
def zb5{a0 a1 a2 a3 a4 a5:Value}(h:x.ownsRow B e s v n xs)(W:e≠30)(Z:Six x gq a0 a1 a2 a3 a4 a5)(J L O I G K:Value) :
  ((((((x.setCell (aD gq 0) J).setCell (aD gq 1) L).setCell (aD gq 2) O).setCell (aD gq 3) I).setCell (aD gq 4) G).setCell (aD gq 5) K).ownsRow B e s v n xs:=by
 refine zb4 h λb D=>?_
 have d:b≠gq:=by
  intro Y;subst Y;rcases h.2 with ⟨rfl,_⟩ | ⟨g,cap,R,rfl,_,X,_⟩
  ·cases D
  have:b=g:=by have:=aI D;exact this.symm
  subst this;have o:=X.symm.trans Z.heap
  injection o with o
  injection o with _ h3 _
  exact W h3
 rw[Below.heap_setCell _ ⟨gq,5,none⟩ K b d,Below.heap_setCell _ ⟨gq,4,none⟩ G b d,Below.heap_setCell _ ⟨gq,3,none⟩ I b d,Below.heap_setCell _ ⟨gq,2,none⟩ O b d,Below.heap_setCell _ ⟨gq,1,none⟩ L b d,Below.heap_setCell _ ⟨gq,0,none⟩ J b d]
def zn4{gr:Nat}{Y W L o J I:Value}(h:Six x gr Y W L o J I)(d:gr≠gq)(K R X G D O:Value) :
  Six ((((((x.setCell (aD gq 0) K).setCell (aD gq 1) R).setCell (aD gq 2) X).setCell (aD gq 3) G).setCell (aD gq 4) D).setCell (aD gq 5) O) gr Y W L o J I:=by
 constructor;rw[Below.heap_setCell _ ⟨gq,5,none⟩ O gr d,Below.heap_setCell _ ⟨gq,4,none⟩ D gr d,Below.heap_setCell _ ⟨gq,3,none⟩ G gr d,Below.heap_setCell _ ⟨gq,2,none⟩ X gr d,Below.heap_setCell _ ⟨gq,1,none⟩ R gr d,Below.heap_setCell _ ⟨gq,0,none⟩ K gr d];exact h.heap
def wq6(k:Nat)(d:k<6):TY k≠30:=by rcases(show k=0\/k=1\/k=2\/k=3\/k=4\/k=5 by omega) with rfl | rfl | rfl | rfl | rfl | rfl<;>decide
def AG.nd0(h:AG w B (wm4 u0 u1 u2 u3 u4 u5) ns l):w.ownsRow B 53 6 u0 ns.length (ndL ns):=by
 have:=h 0 dC;have e:xOf ns ns.length l 0=ndL ns:=by unfold xOf;rw[aG rfl,cH];rfl
 rw[e]at this;exact this
def zN1{b:Nat}{a0 K G X R L:Value}(h:x.ownsRow B e s v n xs)(I:e≠30)(W:Six x gq a0 K G X R L)(o:v.ownBlock=some b):¬b=gq:=by
 intro O;subst O;rcases h.2 with ⟨rfl,_⟩ | ⟨g,cap,D,rfl,_,J,_⟩
 ·cases o
 have:b=g:=by have:=aI o;exact this.symm
 subst this;have d:=J.symm.trans W.heap
 injection d with d
 injection d with _ h3 _
 exact I h3
def Ap(u:Nat->Value):Prop:=∀j k,3<=j->j<k->k<6->∀b c,(u j).ownBlock=some b->(u k).ownBlock=some c->b<c
def wg8{x3 x4:World}{K W:Nat}{R L:List Value}(J:x3.ownsRow B 3 1 u3 K R)(O:x4.ownsRow B 3 1 u4 W L)(Y:∀b,u4.ownBlock=some b->x3.heap.size<=b)(D:∀b,u5.ownBlock=some b->x4.heap.size<=b)(hk:x3.heap.size<=x4.heap.size):Ap (wm4 u0 u1 u2 u3 u4 u5):=by
 intro j k hj X Z b c d o;rcases(show(j=3/\k=4)\/(j=3/\k=5)\/(j=4/\k=5) by omega) with ⟨rfl,rfl⟩ | ⟨rfl,rfl⟩ | ⟨rfl,rfl⟩
 ·have I:=(J.lt b d).2;have G:=Y c o;omega
 ·have I:=(J.lt b d).2;have G:=D c o;omega
 have I:=(O.lt b d).2;have G:=D c o;omega
structure OwF(w Y:World)(gq:Nat)(u0 u1 u2 u3 u4 u5:Value)(ns:List Nd)(l:Ls):Prop where
 six:Six Y gq u0 u1 u2 u3 u4 u5
 res:Six Y (w.heap.size+1) (sZ) (sZ) (sZ) (sZ) (sZ) (sZ)
 ne:gq≠w.heap.size+1
 ge:w.heap.size<=gq
 ok:Ok w Y
 pr:AG Y w.heap.size (wm4 u0 u1 u2 u3 u4 u5) ns l
 ap:Ap (wm4 u0 u1 u2 u3 u4 u5)
end Go.Proofs.YthoegkcpmgalbaaGreatDoor
