import Derived.Test.YtpongdpnbclchaaGreatDoorKFd
import Derived.Test.YtpongdpnbclchaaGreatDoorKPk0
set_option maxHeartbeats 8000000
set_option linter.all false
set_option maxRecDepth 100000
namespace Go.Proofs.YtpongdpnbclchaaGreatDoor
variable{es:List Ed}{i p:Nat}{n:Nd}{ns:List Nd}{w:World}
section
open Go.RowKit
def EV(d:Int):List Nd->Nat
 | []=>0
 | n::r=>if d<n.depth then EV d r+1 else 0
def AE(ns:List Nd)(p:Nat):Int:=((ns[p]?).map Nd.depth).getD 0
def AB(ns:List Nd)(p:Nat):Nat:=p+1+EV (AE ns p) (ns.drop (p+1))
theorem yk0(d:Int):∀l,EV d l<=l.length
 | []=>nR_ _
 | n::r=>by
  rw[EV];split
  ·have:=yk0 d r;rw[List.length_cons];omega
  exact zL_ _
theorem ze6(h:p<ns.length):p<AB ns p/\AB ns p<=ns.length:=by unfold AB;have:=yk0 (AE ns p) (ns.drop (p+1));rw[List.length_drop]at this;omega
theorem zI4{k:Nat}(d:Int)(h:ns[k]?=some n):EV d (ns.drop k)=if d<n.depth then EV d (ns.drop (k+1))+1 else 0:=by obtain⟨hk,e⟩:=List.getElem?_eq_some_iff.1 h;rw[List.drop_eq_getElem_cons hk,e];rfl
theorem AV.get{b o:Nat}(h:AV w b o ns)(hn:ns[i]?=some n):w.cell? ⟨b,o+i*6,none⟩=some (nI n.depth)/\w.cell? ⟨b,o+i*6+1,none⟩=some (nI n.kind)/\w.cell? ⟨b,o+i*6+2,none⟩=some (.string n.name)/\w.cell? ⟨b,o+i*6+3,none⟩=some (nI n.num)/\w.cell? ⟨b,o+i*6+4,none⟩=some (nI n.op)/\w.cell? ⟨b,o+i*6+5,none⟩=some (nI n.pos):=by obtain⟨hi,e⟩:=List.getElem?_eq_some_iff.1 hn;subst e;exact⟨h.c0 i hi,h.c1 i hi,h.c2 i hi,h.c3 i hi,h.c4 i hi,h.c5 i hi⟩
theorem yu2(v:Value)(ns:List Nd)(p:Nat)(w:World)(h:DD w v ns)(hp:p<ns.length)(hl:ns.length<=1000000) :
  Calls Tryz.prog 93 #[v,nI (p:Nat)] w λe w'=>e=.returned (nI (AB ns p:Nat))/\Ok w w':=by
 obtain⟨_,ao,cap,rfl,_,_,hN⟩:=h;obtain⟨b,o,rfl,N1⟩:=hN.resolve_left (λe=>by rw[e]at hp;simp at hp);have HN:=hid N1;clear N1 hN;obtain⟨en,hen⟩:=qq (AB ns p);rw[<-hen];have hpw:IntKind.i64.wrap ((p:Int)+1)=((p+1:Nat):Int):=zb3 oM;have hpl:(p:Int)<(ns.length:Int):=za5 hp;have HE:Hi (en=p+1+EV (AE ns p) (ns.drop (p+1))):=hen;obtain⟨np,hnp⟩:∃n,ns[p]?=some n:=⟨_,gG_ hp⟩;have HD:Hi (AE ns p=np.depth):=by unfold Hi AE;rw[hnp];rfl
 have HNP:=hid hnp;clear hnp;have HPL:=hid hp;clear hen;go_enter Tryz.func93,Tryz.ntmps93;go_wp2_with fail;go_loopw [5] (λt wr=>∃k:Nat,k<=ns.length/\t=nI (k:Nat)/\Hi (en=k+EV (AE ns p) (ns.drop k))/\Hi (Ok w wr)) (λt _=>((ns.length:Int)-intOf t).toNat)
 case atStart=>exact⟨p+1,hp,rfl,HE,Ok.refl _⟩
 obtain⟨k,hk,rfl,HR,HV⟩:=hrel;have M1:=HN.o.below HV.o;have lt1:=M1.lt;by_cases hkl:k<ns.length
 ·have hkl':(k:Int)<(ns.length:Int):=za5 hkl
  have hkl2:decide (k<ns.length)=true:=dT_ hkl;have hkw:IntKind.i64.wrap ((k:Int)+1)=((k+1:Nat):Int):=zb3 oM;obtain⟨nk,hnk⟩:∃n,ns[k]?=some n:=⟨_,gG_ hkl⟩;have c0:=(M1.get hnk).1;have d0:=(M1.get HNP.o).1;have hr:=HR.o;rw[zI4 (AE ns p) hnk,HD.o]at hr;have HDP:=hid HD.o;clear hnk;generalize np.depth=dp at *;generalize nk.depth=dk at *;have hr':=hr;clear hr;by_cases hd:dp<dk
  ·have HR2:Hi (en=k+1+EV (AE ns p) (ns.drop (k+1))):=by unfold Hi;rw[hr',if_pos hd,HDP.o];omega
   clear hr' HR M1;have hd2:decide (dp<dk)=true:=dT_ hd;go_wp2_with fail;go_quiet (fail);go_wp2_with fail;go_roundw
   case rel=>exact⟨k+1,hkl,rfl,HR2,HV.o.draws _⟩
   case measure=>exact we3 hkl
  have HR2:Hi (en=k):=by unfold Hi;rw[hr',if_neg hd];rfl
  clear hr' HR M1;have hd2:decide (dp<dk)=false:=dF_ hd;go_wp2_with fail;go_quiet (fail);go_wp2_with fail;go_ret;exact⟨by rw[HR2.o];rfl,HV.o.draws _⟩
 have hkl':¬(k:Int)<(ns.length:Int):=zb2 hkl;have hkl2:decide (k<ns.length)=false:=dF_ hkl
 have HR2:Hi (en=k):=by have hr:=HR.o;rw[List.drop_eq_nil_of_le (by omega)]at hr;exact hr
 clear HR M1;go_wp2_with fail;go_quiet (fail);go_wp2_with fail;go_ret;exact⟨by rw[HR2.o];rfl,HV.o.draws _⟩
end
section
open Go.RowKit
def wh2(n:Nd):Bool:=decide (2<=n.kind)&&decide (n.kind<=8)
def ptF(ns:List Nd)(i:Nat):Nat:=((ns.take i).filter wh2).length
def upN(m:Nat->Nat)(u k:Nat):Nat->Nat:=λx=>if x=u then k else m x
theorem yk1(m:Nat->Nat)(u k j:Nat):upN (upN m u k) u j=upN m u j:=by funext x;unfold upN;split<;>rfl
def DF(N:Nat)(m:Nat->Nat):Array Value:=((List.range N).map (λi=>Value.int .i64 (m i:Nat))).toArray
theorem zp1(N:Nat)(m:Nat->Nat)(i:Nat)(h:i<N):(DF N m)[i]?=some (nI (m i:Nat)):=by simp[DF,h]
theorem zv3(N:Nat)(m:Nat->Nat)(u k:Nat):(DF N m).setIfInBounds u (nI (k:Nat))=DF N (upN m u k):=by
 apply Array.ext_getElem?;intro i;rw[Array.getElem?_setIfInBounds];by_cases hi:i<N
 ·rw[zp1 _ _ i hi,zp1 _ _ i hi]
  by_cases e:u=i
  ·subst e
   simp[upN,DF,hi]
  rw[if_neg e];have e':¬i=u:=λh=>e h.symm;simp[upN,e']
 have h1:(DF N m)[i]?=none:=by simp[DF];omega
 have h2:(DF N (upN m u k))[i]?=none:=by simp[DF];omega
 rw[h1,h2]
 split
 ·rename_i e
  subst e;simp[DF,hi]
 rfl
theorem yu3(N:Nat):madeCells #[nI 0] N=DF N (λ_=>0):=by
 apply Array.ext';rw[toList_madeCells_one];simp[DF];apply List.ext_getElem
 ·simp
 intro i h1 h2;simp
theorem yu4(N:Nat)(h:N<=10000000)(w:World):(Instr.makeSlice 25 (nI (N:Int)) (nI (N:Int))).run Tryz.prog w=.ok (.slice (sA w.heap.size 0) N N) (w.alloc (.cells (DF N (λ_=>0)) 3)):=by obtain⟨i,hi,hz,hs,hb⟩:=zg6 wn0;have:=run_make (P:=Tryz.prog) w 25 3 i (nI 0) Tryz.underlying25 hi hz .i64 .i64 N N (by omega) (Int.le_refl _) (by rw[hb];omega) (by omega);rw[this];simp only[Int.toNat_natCast,hs,Nat.mul_one];show Result.ok _ (w.alloc (.cells (madeCells #[nI 0] N) 3))=_;rw[yu3]
def wd3(ns:List Nd)(i k:Nat):Nat:=if k<=i then ptF ns k else 0
theorem zC2(h:ns[i]?=some n):ptF ns (i+1)=ptF ns i+if wh2 n then 1 else 0:=by
 unfold ptF;rw[List.take_add_one,h,Option.toList_some,List.filter_append,List.length_append]
 cases hs:wh2 n<;>simp[hs]
theorem zq9(ns:List Nd)(i:Nat):ptF ns i<=ns.length:=by unfold ptF;exact Nat.le_trans (List.length_filter_le _ _) (by rw[List.length_take];omega)
theorem zI5(ns:List Nd)(i:Nat):wd3 ns (i+1)=upN (wd3 ns i) (i+1) (ptF ns (i+1)):=by
 funext x;unfold wd3 upN
 by_cases h:x=i+1
 ·subst h;simp
 rw[if_neg h];by_cases h2:x<=i
 ·have h3:x<=i+1:=oM
  simp[h2,h3]
 have h3:¬x<=i+1:=oM;simp[h2,h3]
def ptL(ns:List Nd):List Value:=(List.range (ns.length+1)).map λi=>nI (ptF ns i:Nat)
def opT:List Int:=[0,0,0,1,2,3,4,5,5,0,0,0,0,0,0,0]
structure EE(w:World):Prop where
 lt:3<w.heap.size
 made:∀k:Nat,k<16->w.cell? ⟨3,k*2,none⟩=some (.bool (decide (2<=k)&&decide (k<=8)))
 op:∀k:Nat,k<16->w.cell? ⟨3,k*2+1,none⟩=some (nI (opT.getD k 0))
theorem EE.below{w1:World}(h:EE w)(hb:Ok w w1):EE w1 :=
 ⟨lL_ h.lt hb.le,λk hk=>hb.cell (p:=⟨3,k*2,none⟩) h.lt (h.made k hk),λk hk=>hb.cell (p:=⟨3,k*2+1,none⟩) h.lt (h.op k hk)⟩
theorem zX0(v:Value)(ns:List Nd)(w:World)(h:DD w v ns)(hl:ns.length<=1000)(hk:∀n∈ns,0<=n.kind/\n.kind<=15)(hS:EE w) :
  Calls Tryz.prog 53 #[v] w λe w'=>∃v',e=.returned v'/\w'.ownsRow w.heap.size 3 1 v' (ns.length+1) (ptL ns)/\Ok w w':=by
 have HN:=hid h;have HS:=hid hS;have HKD:=hid hk;obtain⟨_,ao,cap,rfl,_,_,_⟩:=h;clear hk hS;have hw1:IntKind.i64.wrap ((ns.length:Int)+1)=((ns.length+1:Nat):Int):=zb3 oM;have hmk:(Instr.makeSlice 25 (nI ((ns.length:Int)+1)) (nI ((ns.length:Int)+1))).run Tryz.prog w=.ok (.slice (sA w.heap.size 0) (ns.length+1) (ns.length+1)) (w.alloc (.cells (DF (ns.length+1) (λ_=>0)) 3)):=yu4 (ns.length+1) oM w;obtain⟨B,hB⟩:=qq (w.heap.size);have HB:Hi (B=w.heap.size):=hB;go_enter Tryz.func53,Tryz.ntmps53;go_wp2_with fail;rw[<-hB];clear hB hmk;go_loopw [12] (λa wr=>∃i:Nat,i<=ns.length/\a=nI (i:Nat)/\Hi (Ok w wr)/\Hi (wr.heap[B]?=some (.cells (DF (ns.length+1) (wd3 ns i)) 3 (0,0)))) (λa _=>ns.length-(intOf a).toNat)
 case atStart =>
  refine⟨0,zL_ _,rfl,(Ok.refl w).alloc _,?_⟩
  have e:wd3 ns 0=λ_=>0:=by
   funext k;unfold wd3
   split
   ·next h =>
    have:k=0:=oM;subst this;simp[ptF]
   rfl
  unfold Hi;rw[e,HB.o];exact za3 _ _
 obtain⟨i,hi,rfl,HK,HR⟩:=hrel;have hBl:=za2 HR.o;have hBw:w.heap.size<=B:=by have:=HB.o;omega
 by_cases hil:i<ns.length
 ·have hil':(i:Int)<(ns.length:Int):=za5 hil
  obtain⟨n,hn⟩:∃n,ns[i]?=some n:=⟨_,gG_ hil⟩;obtain⟨_,ao',cap',e1,_,_,hN⟩:=HN.o
  injection e1 with e1 e2 e3;clear e2
  subst e1 e3;obtain⟨b,o,rfl,N1⟩:=hN.resolve_left (λe=>by rw[e]at hil;simp at hil);have hbw:=N1.lt;have M1:=N1.below HK.o;obtain⟨c0,c1,c2,c3,c4,c5⟩:=M1.get hn;have hbl:=M1.lt;obtain⟨hk0,hk15⟩:=HKD.o n (mG_ hn);obtain⟨kd,hkd⟩:∃k:Nat,n.kind=(k:Int):=⟨n.kind.toNat,(Int.toNat_of_nonneg hk0).symm⟩;rw[hkd]at c1;have hk16:kd<16:=oM;have hk16':(kd:Int)<16:=oM;have s0:=(HS.o.below HK.o).made kd hk16;have hsl:=(HS.o.below HK.o).lt;have hpt:=zC2 hn
  have hsb:wh2 n=(decide (2<=kd)&&decide (kd<=8)):=by
   unfold wh2;rw[hkd]
   congr 1
   ·exact decide_eq_decide.2 oM
   exact decide_eq_decide.2 oM
  rw[hsb]at hpt;have hle:=zq9 ns i;obtain⟨q,hq⟩:=qq (ptF ns i);have r0:wr.cell? (aD B i)=some (nI (q:Nat)):=(cell_of_row _ _ _ _ _ _ HR.o).trans ((zp1 _ _ _ (by omega)).trans (by rw[hq];unfold wd3;rw[if_pos (Nat.le_refl _)]));have r1:wr.cell? ⟨B,i+1,none⟩=some (nI 0):=(cell_of_row _ _ _ _ _ _ HR.o).trans ((zp1 _ _ _ (by omega)).trans (by unfold wd3;rw[if_neg (by omega)];rfl));have f1:wr.frozen? ⟨B,i+1,none⟩=false:=frozen_of_row _ _ _ _ _ HR.o;rw[<-hq]at hpt hle;have hqw:IntKind.i64.wrap ((q:Int)+1)=((q+1:Nat):Int):=zb3 oM;have hiw:IntKind.i64.wrap ((i:Int)+1)=((i+1:Nat):Int):=zb3 oM;have hi1:(i:Int)+1<(ns.length:Int)+1:=oM;have n1:¬b=wr.heap.size:=oM;have n2:¬B=wr.heap.size:=oM;have n3:¬b=B:=oM;have n4:¬B=b:=oM;have n5:¬3=B:=by have:=HS.o.lt;omega
  have n6:¬B=3:=by have:=HS.o.lt;omega
  have n7:¬3=wr.heap.size:=oM;have HPT:=hid hpt;have HBW:=hid hBw;clear hq hpt hsb hkd hn N1 M1 hN hBw
  cases hst:(decide (2<=kd)&&decide (kd<=8)) with
  | true =>
   have HP2:Hi (ptF ns (i+1)=q+1):=by have:=HPT.o;rw[hst]at this;exact this
   rw[hst]at s0;clear hst HPT;go_wp2_with fail;refine⟨⟨i+1,hil,by go_num,?_,?_⟩,by simp[intOf];omega⟩
   ·exact((HK.o.set (p:=⟨B,i+1,none⟩) HBW.o _).set (p:=⟨B,i+1,none⟩) HBW.o _).alloc _
   unfold Hi;have e:DF (ns.length+1) (wd3 ns (i+1))=((DF (ns.length+1) (wd3 ns i)).setIfInBounds (i+1) (nI (q:Nat))).setIfInBounds (i+1) (nI ((q+1:Nat):Int)):=by rw[zv3,zv3,yk1,zI5,HP2.o]
   rw[e];exact heap_past _ _ _ (by simpa using hBl) (heap_setCell_same _ _ _ _ _ _ (heap_setCell_same _ _ _ _ _ _ HR.o))
  | false =>
   have HP2:Hi (ptF ns (i+1)=q):=by have:=HPT.o;rw[hst]at this;exact this
   rw[hst]at s0;clear hst HPT;go_wp2_with fail;refine⟨⟨i+1,hil,by go_num,?_,?_⟩,by simp[intOf];omega⟩
   ·exact(HK.o.set (p:=⟨B,i+1,none⟩) HBW.o _).alloc _
   unfold Hi;have e:DF (ns.length+1) (wd3 ns (i+1))=(DF (ns.length+1) (wd3 ns i)).setIfInBounds (i+1) (nI (q:Nat)):=by rw[zv3,zI5,HP2.o]
   rw[e];exact heap_past _ _ _ (by simpa using hBl) (heap_setCell_same _ _ _ _ _ _ HR.o)
 have hil':¬(i:Int)<(ns.length:Int):=zb2 hil;have hie:i=ns.length:=oM
 have HF:Hi (wr.ownsRow w.heap.size 3 1 (.slice (sA B 0) (ns.length+1) (ns.length+1)) (ns.length+1) (ptL ns)):=by
  have e:ptL ns=(DF (ns.length+1) (wd3 ns i)).toList:=by unfold DF ptL;simp only[List.toList_toArray];apply List.map_congr_left;intro x hx;rw[List.mem_range]at hx;unfold wd3;rw[if_pos (by omega)]
  refine⟨by unfold ptL;simp,.inr ⟨B,ns.length+1,_,rfl,hBw,HR.o,Nat.le_refl _,by unfold maxLen;omega,by simp[DF],?_⟩⟩;rw[e,List.take_of_length_le (by simp[DF])]
 clear hie;go_wp2_with fail;go_ret;exact⟨_,rfl,HF.o,HK.o⟩
end
section
open Go.RowKit
theorem yu5(h:¬p<ns.length):AB ns p=p+1:=by unfold AB;rw[List.drop_eq_nil_of_le (by omega)];rfl
theorem zk7(v:Value)(ns:List Nd)(p:Nat)(w:World)(h:DD w v ns)(hl:ns.length<=1000000)(hp:p<=2000000) :
  Calls Tryz.prog 93 #[v,nI (p:Nat)] w λe w'=>e=.returned (nI (AB ns p:Nat))/\Ok w w':=by
 by_cases hpl:p<ns.length
 ·exact yu2 v ns p w h hpl hl
 rw[yu5 hpl];obtain⟨_,ao,cap,rfl,_,_,hN⟩:=h;have hpw:IntKind.i64.wrap ((p:Int)+1)=((p+1:Nat):Int):=zb3 oM;have hn:¬(p:Int)+1<(ns.length:Int):=oM;have hn2:¬p+1<ns.length:=oM;have hn3:decide (p+1<ns.length)=false:=dF_ hn2;clear hN;go_enter Tryz.func93,Tryz.ntmps93;go_wp2_with fail;go_loopw [5] (λt wr=>t=nI ((p:Int)+1)/\wr=w) (λ_ _=>0)
 case atStart=>exact⟨rfl,rfl⟩
 obtain⟨rfl,rfl⟩:=hrel;have hkl2:decide ((p:Int)+1<(ns.length:Int))=false:=dF_ oM;go_wp2_with fail
 go_region
 go_wp2_with fail;go_ret;exact⟨by simp,by repeat (first | exact Ok.refl _ | refine Below.drew ?_)⟩
theorem yk2(a b:List Ed):edL (a++b)=edL a++edL b:=by simp[edL]
theorem yk3(e:Ed):edL [e]=edV e:=by simp[edL]
theorem yk4:∀(es:List Ed),(edL es).length=es.length*6
 | []=>rfl
 | e::es=>by have:=yk4 es;unfold edL at this ⊢;rw[List.map_cons,List.flatten_cons,List.length_append,this,List.length_cons];simp[edV];omega
def bgF(ns:List Nd)(x y z:Nat):Nat:=if x<y then ptF ns x else z
def kdA(ns:List Nd)(p:Nat):Int:=((ns[p]?).map Nd.kind).getD 0
def chE(ns:List Nd)(p next:Nat):List Ed :=
 [⟨ptF ns p,bgF ns (AB ns (p+1)+1) (AB ns (AB ns (p+1))) (if kdA ns p=8 then ptF ns p else next),5,p+1,true,decide (kdA ns p=8)⟩,
 ⟨ptF ns p,bgF ns (AB ns (AB ns (p+1))+1) (AB ns p) next,5,p+1,false,decide (kdA ns p=8)⟩]
def stE(ns:List Nd):Nat->Nat->Nat->Nat->List Ed
 | 0,_,_,_=>[]
 | f+1,p,en,fol =>
  if p<en then
   (if kdA ns p=7\/kdA ns p=8 then
    chE ns p (bgF ns (AB ns p) en fol)++(stE ns f (AB ns (p+1)+1) (AB ns (AB ns (p+1))) (if kdA ns p=8 then ptF ns p else bgF ns (AB ns p) en fol)++stE ns f (AB ns (AB ns (p+1))+1) (AB ns p) (bgF ns (AB ns p) en fol))
   else if 2<=kdA ns p/\kdA ns p<=6 then [⟨ptF ns p,bgF ns (AB ns p) en fol,kdA ns p-2,p,false,false⟩]
   else [])++stE ns f (AB ns p) en fol
  else []
theorem wn1:(Tryz.prog.info? 59).map (λi=>(i.zero,i.size,i.bytes))=some (some (.agg #[nI 0,nI 0,nI 0,nI 0,.bool false,.bool false]),6,40):=by kernel_rfl
end
section
open Go.RowKit
structure EP where
 v:Value
 pv:Value
 ns:List Nd
 bt:Nat
 bp:Nat
 bl:Nat
 bb:Nat
 bs:Nat
 bc:Nat
 B:Nat
def ptr(b:Nat):Value:=pA b 0
structure EB(E:EP)(w:World)(es:List Ed):Prop where
 t:w.heap[E.bt]?=some (.cells #[E.v] 120 (0,0))
 p:w.heap[E.bp]?=some (.cells #[E.pv] 25 (0,0))
 b:w.heap[E.bb]?=some (.cells #[.func (.func 91) #[] #[ptr E.bp]] 178 (0,0))
 s:w.heap[E.bs]?=some (.cells #[.func (.func 94) #[] #[ptr E.bt,ptr E.bb,ptr E.bc,ptr E.bl,ptr E.bp]] 179 (0,0))
 c:w.heap[E.bc]?=some (.cells #[.func (.func 92) #[] #[ptr E.bt,ptr E.bp,ptr E.bb,ptr E.bl,ptr E.bs]] 180 (0,0))
 l:∃lv,w.heap[E.bl]?=some (.cells #[lv] 51 (0,0))/\w.ownsRow E.B 59 6 lv es.length (edL es)
 nd:DD w E.v E.ns
 pt:w.ownsRow 0 3 1 E.pv (E.ns.length+1) (ptL E.ns)
 st:EE w
structure wl5(E:EP):Prop where
 len:E.ns.length<=1000
 kind:∀n∈E.ns,0<=n.kind/\n.kind<=15
 lo:E.B<=E.bt/\E.B<=E.bp/\E.B<=E.bl/\E.B<=E.bb/\E.B<=E.bs/\E.B<=E.bc
 ne:E.bl≠E.bt/\E.bl≠E.bp/\E.bl≠E.bb/\E.bl≠E.bs/\E.bl≠E.bc
 nB:∀b o n c,E.v=.slice (sA b o) n c->E.ns≠[]->b<E.B
 pB:∀b,E.pv.ownBlock=some b->b<E.B
 sB:3<E.B
theorem EB.ok{E:EP}{w':World}(h:EB E w es)(hk:Ok w w'):EB E w' es :=
 ⟨hk.row' h.t,hk.row' h.p,hk.row' h.b,hk.row' h.s,hk.row' h.c,by obtain⟨lv,h1,h2⟩:=h.l;exact⟨lv,hk.row' h1,za1 h2 hk⟩,h.nd.below hk,za1 h.pt hk,h.st.below hk⟩
theorem EB.more{E:EP}{w':World}{es2:List Ed}{lv lv':Value}(h:EB E w es)(hE:wl5 E)(hl:w.heap[E.bl]?=some (.cells #[lv] 51 (0,0)))(ho:w.ownsRow E.B 59 6 lv es.length (edL es))(hg:w.grownBy w' lv.ownBlock)(ho':w'.ownsRow E.B 59 6 lv' (es.length+es2.length) (edL es++edL es2)) :
  EB E (w'.setCell (aD E.bl 0) lv') (es++es2)/\Below E.B w (w'.setCell (aD E.bl 0) lv'):=by
 have keep:∀(b:Nat) (cs:Array Value) (t:TypeId),w.heap[b]?=some (.cells cs t (0,0))->t≠59->w'.heap[b]?=some (.cells cs t (0,0)):=by
  intro b cs t hb ht;refine(hg.block b (za2 hb) (λe=>?_)).trans hb;rcases ho.2 with ⟨rfl,_⟩ | ⟨g,cap,cur,rfl,_,hgg,_⟩
  ·cases e
  have e':b=g:=Option.some.inj e;subst e';have h2:=hgg.symm.trans hb
  injection h2 with h2
  injection h2 with _ h3 _
  exact ht h3.symm
 have old:∀b,b<E.B->b<w.heap.size->w'.heap[b]?=w.heap[b]?:=by intro b hb hs;refine hg.block b hs (λe=>?_);have:=(ho.lt b e.symm).1;omega
 have set:∀(b:Nat) (cs:Array Value) (t:TypeId),b≠E.bl->w'.heap[b]?=some (.cells cs t (0,0))->(w'.setCell (aD E.bl 0) lv').heap[b]?=some (.cells cs t (0,0)):=λb cs t hb hh=>(Below.heap_setCell _ _ _ _ hb).trans hh;obtain⟨n1,n2,n3,n4,n5⟩:=hE.ne;obtain⟨l1,l2,l3,l4,l5,l6⟩:=hE.lo;have hl':=keep _ _ _ hl dC
 have hbel:Below E.B w (w'.setCell (aD E.bl 0) lv'):=by refine Below.setCell ?_ (p:=⟨E.bl,0,none⟩) l3 _;exact⟨hg.os,hg.tape,hg.output,hg.size,λb hb=>old b hb (by have:=za2 hl;omega)⟩
 refine⟨⟨set _ _ _ (Ne.symm n1) (keep _ _ _ h.t dC),set _ _ _ (Ne.symm n2) (keep _ _ _ h.p dC),set _ _ _ (Ne.symm n3) (keep _ _ _ h.b dC),set _ _ _ (Ne.symm n4) (keep _ _ _ h.s dC),set _ _ _ (Ne.symm n5) (keep _ _ _ h.c dC),⟨lv',?_,?_⟩,?_,?_,?_⟩,hbel⟩
 ·have:=heap_setCell_same w' E.bl 0 _ _ lv' hl'
  rw[this];simp
 ·rw[List.length_append,yk2]
  refine zb4 ho' λb hb=>Below.heap_setCell _ _ _ _ ?_;show b≠E.bl;intro e;subst e;rcases ho'.2 with ⟨rfl,_⟩ | ⟨g,cap,cur,rfl,_,hgg,_⟩
  ·cases hb
  have e':E.bl=g:=(Option.some.inj hb).symm;rw[<-e']at hgg;have h2:=hgg.symm.trans hl'
  injection h2 with h2
  injection h2 with _ h3 _
  exact absurd h3 dC
 ·obtain⟨hok,ao,cap,e,h1,h2,k⟩:=h.nd
  refine⟨hok,ao,cap,e,h1,h2,?_⟩;by_cases hne:E.ns=[]
  ·exact .inl hne
  obtain⟨b,o,e2,N⟩:=k.resolve_left hne;subst e2;have hb:=hE.nB b o _ _ e hne;exact .inr ⟨b,o,rfl,lL_ N.lt hbel.size,λi hi=>(hbel.cell (p:=⟨b,o+i*6,none⟩) hb).trans (N.c0 i hi),λi hi=>(hbel.cell (p:=⟨b,o+i*6+1,none⟩) hb).trans (N.c1 i hi),λi hi=>(hbel.cell (p:=⟨b,o+i*6+2,none⟩) hb).trans (N.c2 i hi),λi hi=>(hbel.cell (p:=⟨b,o+i*6+3,none⟩) hb).trans (N.c3 i hi),λi hi=>(hbel.cell (p:=⟨b,o+i*6+4,none⟩) hb).trans (N.c4 i hi),λi hi=>(hbel.cell (p:=⟨b,o+i*6+5,none⟩) hb).trans (N.c5 i hi)⟩
 ·exact zb4 h.pt λb hb=>hbel.block b (hE.pB b hb)
 exact⟨lL_ h.st.lt hbel.size,λk hk=>(hbel.cell (p:=⟨3,k*2,none⟩) hE.sB).trans (h.st.made k hk),λk hk=>(hbel.cell (p:=⟨3,k*2+1,none⟩) hE.sB).trans (h.st.op k hk)⟩
theorem zN4(ns:List Nd)(h:i<=ns.length):(ptL ns)[i]?=some (nI (ptF ns i:Nat)):=by unfold ptL;rw[List.getElem?_map,List.getElem?_range (by omega)];rfl
theorem EB.point{E:EP}(h:EB E w es):∃g cap,E.pv=.slice (sA g 0) (E.ns.length+1) cap/\g<w.heap.size/\∀i,i<=E.ns.length->w.cell? (aD g i)=some (nI (ptF E.ns i:Nat)):=by obtain⟨g,cap,e,_⟩:=h.pt.form oM;have hp:=h.pt;rw[e]at hp;refine⟨g,cap,e,(hp.lt g rfl).2,λi hi=>?_⟩;have:=hp.cells (g:=g) rfl i _ (zN4 E.ns hi);rw[zb7,Nat.zero_add]at this;exact this
theorem zm6(E:EP)(w:World)(es:List Ed)(x y z:Nat)(h:EB E w es)(hx:x<y->x<=E.ns.length) :
  Calls Tryz.prog 91 #[nI (x:Nat),nI (y:Nat),nI (z:Nat),ptr E.bp] w λe w'=>e=.returned (nI (bgF E.ns x y z:Nat))/\Ok w w':=by
 unfold ptr;have c0:w.cell? (aD E.bp 0)=some E.pv:=(cell_of_row _ _ 0 _ _ _ h.p).trans sI;have hlt:=za2 h.p;obtain⟨g,cap,e,hg,hc⟩:=h.point;rw[e]at c0;by_cases hxy:x<y
 ·have hxy':(x:Int)<(y:Int):=za5 hxy
  have r0:=hc x (hx hxy);have hxl:(x:Int)<(E.ns.length:Int)+1:=by have:=hx hxy;omega
  have HE:Hi (bgF E.ns x y z=ptF E.ns x):=by unfold Hi bgF;rw[if_pos hxy]
  obtain⟨q,hq⟩:=qq (ptF E.ns x);rw[<-hq]at r0;have HQ:Hi (bgF E.ns x y z=q):=by unfold Hi;rw[HE.o,hq]
  clear hc h hq HE e;go_enter Tryz.func91,Tryz.ntmps91;go_wp2_with fail;go_ret;exact⟨by rw[HQ.o];rfl,Ok.refl _⟩
 have hxy':¬(x:Int)<(y:Int):=zb2 hxy;have HE:Hi (bgF E.ns x y z=z):=by unfold Hi bgF;rw[if_neg hxy]
 clear hc h e;go_enter Tryz.func91,Tryz.ntmps91;go_wp2_with fail;go_ret;exact⟨by rw[HE.o];rfl,Ok.refl _⟩
end
section
open Go.RowKit
theorem zv4(d:Int):∀(l:List Nd) (i:Nat),i<EV d l->∃n,l[i]?=some n/\d<n.depth
 | [],i,h=>by cases h
 | n::r,i,h=>by
  rw[EV]at h
  split at h
  ·next hd =>
   cases i with
   | zero=>exact⟨n,rfl,hd⟩
   | succ i =>
    obtain⟨m,e,h2⟩:=zv4 d r i oM;exact⟨m,by rw[List.getElem?_cons_succ];exact e,h2⟩
  cases h
theorem zv5(d:Int):∀(l:List Nd) (k:Nat) (n:Nd),l[k]?=some n->n.depth<=d->EV d l<=k
 | [],k,n,h,_=>by simp at h
 | m::r,0,n,h,hd=>by simp at h;subst h;rw[EV,if_neg (by omega)];exact Nat.le_refl _
 | m::r,k+1,n,h,hd=>by
  rw[List.getElem?_cons_succ]at h;have:=zv5 d r k n h hd
  rw[EV];split<;>omega
theorem zv6(d:Int):∀(l:List Nd) (n:Nd),l[EV d l]?=some n->n.depth<=d
 | [],n,h=>by simp[EV]at h
 | m::r,n,h=>by
  rw[EV]at h
  split at h
  ·next hd=>rw[List.getElem?_cons_succ]at h;exact zv6 d r n h
  next hd=>simp at h;subst h;omega
theorem zN5{a:Nat}(h1:p<a)(h2:a<AB ns p):AB ns a<=AB ns p:=by
 have hr:a-(p+1)<EV (AE ns p) (ns.drop (p+1)):=by unfold AB at h2;omega
 obtain⟨na,ea,hda⟩:=zv4 _ _ _ hr;rw[List.getElem?_drop,show p+1+(a-(p+1))=a by omega]at ea;have ha:AE ns a=na.depth:=by unfold AE;rw[ea];rfl
 have hal:a<ns.length:=(List.getElem?_eq_some_iff.1 ea).1;by_cases he:AB ns p<ns.length
 ·have hx:ns[AB ns p]?=some ns[AB ns p]:=gG_ he
  have hx2:(ns.drop (p+1))[EV (AE ns p) (ns.drop (p+1))]?=some ns[AB ns p]:=by rw[List.getElem?_drop];unfold AB at hx ⊢;exact hx
  have hd:=zv6 _ _ _ hx2;have hs:=zv5 (AE ns a) (ns.drop (a+1)) (AB ns p-(a+1)) ns[AB ns p] (by rw[List.getElem?_drop,show a+1+(AB ns p-(a+1))=AB ns p by omega];exact hx) (by rw[ha];omega);have:AB ns a=a+1+EV (AE ns a) (ns.drop (a+1)):=rfl;omega
 have:=(ze6 hal).2;omega
def wl1(ns:List Nd):Prop:=∀p,p<ns.length->kdA ns p=7\/kdA ns p=8->AB ns (p+1)<AB ns p
theorem yE9{x y z:Nat}(hz:z<=1000)(hl:ns.length<=1000):bgF ns x y z<=1000:=by
 unfold bgF;split
 ·exact Nat.le_trans (zq9 ns x) hl
 exact hz
theorem yk5(ns:List Nd)(p next:Nat):(chE ns p next).length=2:=rfl
theorem zk8{f en fol:Nat}(h:¬p<en):stE ns f p en fol=[]:=by
 cases f with
 | zero=>rfl
 | succ f=>rw[stE,if_neg h]
end
end Go.Proofs.YtpongdpnbclchaaGreatDoor
