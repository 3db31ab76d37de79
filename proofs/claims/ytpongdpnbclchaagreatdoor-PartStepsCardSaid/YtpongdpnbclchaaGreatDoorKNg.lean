import Derived.Shelf.Strconv.Itoa3
import Derived.Test.YtpongdpnbclchaaGreatDoorKJd
import Derived.Test.YtpongdpnbclchaaGreatDoorKNc
set_option maxHeartbeats 8000000
set_option linter.all false
set_option maxRecDepth 100000
namespace Go.Proofs.YtpongdpnbclchaaGreatDoor
variable{listed:Array Bool}
section
open Go.RowKit
theorem yG4(c:Nat->Int)(ts:List Int)(tz:Option Addr)(tc:Nat)(w:World)(h:SL w 1 (.slice tz ts.length tc) ts.length (ilL ts)) :
  Calls Tryz.prog 24 #[.agg #[nI (c 0),nI (c 1),nI (c 2),nI (c 3),nI (c 4),nI (c 5),.slice tz ts.length tc,nI (c 7),nI (c 8)]] w λe w'=>e=.returned (nI (AJ c ts))/\Ok w w':=by
 have HM:=hid h;obtain⟨N,hN⟩:=qq (ts.length);have HN:Hi (N=ts.length):=hN;rw[<-hN];clear h hN;have HL:Hi (∀j,j<0->CX c ts j=true):=λj h=>absurd h (Nat.not_lt_zero j);go_enter Tryz.func24,Tryz.ntmps24;by_cases a0:c 0<0
 ·have HF:Hi (AJ c ts=190):=zg0 (k:=0) (by decide) HL.o (by show(decide (0<=c 0)&&decide (c 0<=3))=false;rw[decide_eq_false (by omega)];rfl)
  go_wp2_with fail;go_ret;exact⟨by rw[HF.o];rfl,(Ok.refl w).alloc _⟩
 by_cases b0:3<c 0
 ·have HF:Hi (AJ c ts=190):=zg0 (k:=0) (by decide) HL.o (by show(decide (0<=c 0)&&decide (c 0<=3))=false;rw[decide_eq_false (show ¬c 0<=3 by omega),Bool.and_false])
  go_wp2_with fail;go_ret;exact⟨by rw[HF.o];rfl,(Ok.refl w).alloc _⟩
 replace HL:=hid (zg1 HL.o (show(decide (0<=c 0)&&decide (c 0<=3))=true by rw[decide_eq_true (by omega),decide_eq_true (by omega)];rfl));by_cases a1:c 1<0
 ·have HF:Hi (AJ c ts=191):=zg0 (k:=1) (by decide) HL.o (by show(decide (0<=c 1)&&decide (c 1<=3))=false;rw[decide_eq_false (by omega)];rfl)
  go_wp2_with fail;go_ret;exact⟨by rw[HF.o];rfl,(Ok.refl w).alloc _⟩
 by_cases b1:3<c 1
 ·have HF:Hi (AJ c ts=191):=zg0 (k:=1) (by decide) HL.o (by show(decide (0<=c 1)&&decide (c 1<=3))=false;rw[decide_eq_false (show ¬c 1<=3 by omega),Bool.and_false])
  go_wp2_with fail;go_ret;exact⟨by rw[HF.o];rfl,(Ok.refl w).alloc _⟩
 replace HL:=hid (zg1 HL.o (show(decide (0<=c 1)&&decide (c 1<=3))=true by rw[decide_eq_true (by omega),decide_eq_true (by omega)];rfl));by_cases a2:c 2<1
 ·have HF:Hi (AJ c ts=192):=zg0 (k:=2) (by decide) HL.o (by show(decide (1<=c 2)&&decide (c 2<=6))=false;rw[decide_eq_false (by omega)];rfl)
  go_wp2_with fail;go_ret;exact⟨by rw[HF.o];rfl,(Ok.refl w).alloc _⟩
 by_cases b2:6<c 2
 ·have HF:Hi (AJ c ts=192):=zg0 (k:=2) (by decide) HL.o (by show(decide (1<=c 2)&&decide (c 2<=6))=false;rw[decide_eq_false (show ¬c 2<=6 by omega),Bool.and_false])
  go_wp2_with fail;go_ret;exact⟨by rw[HF.o];rfl,(Ok.refl w).alloc _⟩
 replace HL:=hid (zg1 HL.o (show(decide (1<=c 2)&&decide (c 2<=6))=true by rw[decide_eq_true (by omega),decide_eq_true (by omega)];rfl));by_cases a3:c 3<0
 ·have HF:Hi (AJ c ts=193):=zg0 (k:=3) (by decide) HL.o (by show(decide (0<=c 3)&&decide (c 3<=6))=false;rw[decide_eq_false (by omega)];rfl)
  go_wp2_with fail;go_ret;exact⟨by rw[HF.o];rfl,(Ok.refl w).alloc _⟩
 by_cases b3:6<c 3
 ·have HF:Hi (AJ c ts=193):=zg0 (k:=3) (by decide) HL.o (by show(decide (0<=c 3)&&decide (c 3<=6))=false;rw[decide_eq_false (show ¬c 3<=6 by omega),Bool.and_false])
  go_wp2_with fail;go_ret;exact⟨by rw[HF.o];rfl,(Ok.refl w).alloc _⟩
 replace HL:=hid (zg1 HL.o (show(decide (0<=c 3)&&decide (c 3<=6))=true by rw[decide_eq_true (by omega),decide_eq_true (by omega)];rfl));by_cases a4:c 4<0
 ·have HF:Hi (AJ c ts=194):=zg0 (k:=4) (by decide) HL.o (by show(decide (0<=c 4)&&decide (c 4<=3))=false;rw[decide_eq_false (by omega)];rfl)
  go_wp2_with fail;go_ret;exact⟨by rw[HF.o];rfl,(Ok.refl w).alloc _⟩
 by_cases b4:3<c 4
 ·have HF:Hi (AJ c ts=194):=zg0 (k:=4) (by decide) HL.o (by show(decide (0<=c 4)&&decide (c 4<=3))=false;rw[decide_eq_false (show ¬c 4<=3 by omega),Bool.and_false])
  go_wp2_with fail;go_ret;exact⟨by rw[HF.o];rfl,(Ok.refl w).alloc _⟩
 replace HL:=hid (zg1 HL.o (show(decide (0<=c 4)&&decide (c 4<=3))=true by rw[decide_eq_true (by omega),decide_eq_true (by omega)];rfl));by_cases a5:c 5<0
 ·have HF:Hi (AJ c ts=195):=zg0 (k:=5) (by decide) HL.o (by show(decide (0<=c 5)&&decide (c 5<=3))=false;rw[decide_eq_false (by omega)];rfl)
  go_wp2_with fail;go_ret;exact⟨by rw[HF.o];rfl,(Ok.refl w).alloc _⟩
 by_cases b5:3<c 5
 ·have HF:Hi (AJ c ts=195):=zg0 (k:=5) (by decide) HL.o (by show(decide (0<=c 5)&&decide (c 5<=3))=false;rw[decide_eq_false (show ¬c 5<=3 by omega),Bool.and_false])
  go_wp2_with fail;go_ret;exact⟨by rw[HF.o];rfl,(Ok.refl w).alloc _⟩
 replace HL:=hid (zg1 HL.o (show(decide (0<=c 5)&&decide (c 5<=3))=true by rw[decide_eq_true (by omega),decide_eq_true (by omega)];rfl));by_cases a6:(6:Int)<(N:Int)
 ·have HF:Hi (AJ c ts=196):=zg0 (k:=6) (by decide) HL.o (by show(decide (ts.length<=6)&&CU ts)=false;rw[decide_eq_false (by have:=HN.o;omega)];rfl)
  go_wp2_with fail;go_ret;exact⟨by rw[HF.o];rfl,(Ok.refl w).alloc _⟩
 have HN6:Hi (N<=6):=by unfold Hi;omega
 go_upto_region 15 with (fail)
 obtain⟨W,hW⟩:=qq (w.alloc (Obj.cells #[nI (c 0),nI (c 1),nI (c 2),nI (c 3),nI (c 4),nI (c 5),.slice tz N tc,nI (c 7),nI (c 8)] 24));obtain⟨gC,hgC⟩:=qq (w.heap.size);rw[<-hW,<-hgC];have HK0:Hi (Ok w W):=by rw[hW];exact(Ok.refl w).alloc _
 have HC:Hi (W.heap[gC]?=some (.cells #[nI (c 0),nI (c 1),nI (c 2),nI (c 3),nI (c 4),nI (c 5),.slice tz N tc,nI (c 7),nI (c 8)] 24 (0,0))):=by rw[hW,hgC];exact za3 _ _
 clear hW hgC a0 b0 a1 b1 a2 b2 a3 b3 a4 b4 a5 b5 a6;go_wp2_with fail;go_loopw [3] (λt3 wr=>∃k:Nat,t3=nI ((k+1:Nat):Int)/\Hi (Ok W wr/\CU ts=CU (ts.drop k)/\(k=0\/k<N))) (λt3 _=>((N:Int)-intOf t3).toNat)
 case atStart=>exact⟨0,rfl,Ok.refl _,rfl,Or.inl rfl⟩
 obtain⟨k,rfl,HR⟩:=hrel;obtain⟨i,hi⟩:=qq (k+1);have HI:Hi (i=k+1):=hi;rw[<-hi];clear hi;obtain⟨p0,p1,p2,p3,p4,p5,p6,p7,p8,lgp⟩:=CQ (Ok.row' HR.o.1 HC.o);by_cases hkl:i<N
 ·obtain⟨b,o,c',e1,e2,e3⟩:=HM.o.at (k:=i) (by decide) (by rw[<-HN.o];exact hkl)
  injection e1 with e4 e5 e6
  subst e4 e6;clear e5;obtain⟨x,hx⟩:∃x,ts[k]?=some x:=⟨_,gG_ (by have:=HI.o;have:=HN.o;omega)⟩;obtain⟨y,hy⟩:∃y,ts[k+1]?=some y:=⟨_,gG_ (by have:=HI.o;have:=HN.o;omega)⟩;have hKR:=HK0.o.step HR.o.1;have r0:wr.cell? ⟨b,o+i,none⟩=some (nI y):=hKR.cell (p:=⟨b,o+i,none⟩) e2 (e3 i _ (by rw[HI.o];unfold ilL;rw[List.getElem?_map,hy];rfl));have r1:wr.cell? ⟨b,o+k,none⟩=some (nI x):=hKR.cell (p:=⟨b,o+k,none⟩) e2 (e3 k _ (by unfold ilL;rw[List.getElem?_map,hx];rfl));have HXY:Hi (ts[k]?=some x/\ts[k+1]?=some y):=⟨hx,hy⟩;have lb:b<wr.heap.size:=lL_ e2 hKR.le;have hkI:(i:Int)<(N:Int):=za5 hkl;have kw:IntKind.i64.wrap ((i:Int)+1)=((i+1:Nat):Int):=zb3 (by have:=HN6.o;omega);have km:IntKind.i64.wrap ((i:Int)-1)=((k:Nat):Int):=zd3 (by have h1:=HI.o;omega) (by have:=HN6.o;have:=HI.o;omega);have hkk:(k:Int)<(N:Int):=by have h1:=HI.o;omega
  clear e2 e3 hx hy hKR;by_cases hxy:y<=x
  ·have HD:Hi (AJ c ts=196):=zg0 (k:=6) (by decide) HL.o (by show(decide (ts.length<=6)&&CU ts)=false;rw[HR.o.2.1,zt7 HXY.o.1 HXY.o.2,decide_eq_false (show ¬x<y by omega),Bool.false_and,Bool.and_false])
   go_upto_region 18 with (fail)
   go_quiet (fail);go_wp2_with fail;go_ret;exact⟨by rw[HD.o];rfl,(HK0.o.step HR.o.1).draws _⟩
  have HD:Hi (CU ts=CU (ts.drop i)):=by unfold Hi;rw[HR.o.2.1,zt7 HXY.o.1 HXY.o.2,decide_eq_true (by omega),Bool.true_and,HI.o]
  go_upto_region 18 with (fail)
  go_quiet (fail);go_wp2_with fail;exact⟨⟨i,rfl,HR.o.1.draws _,HD.o,Or.inr hkl⟩,by show((N:Int)-((i:Int)+1)).toNat<((N:Int)-(i:Int)).toNat;omega⟩
 have hkI:¬(i:Int)<(N:Int):=zb2 hkl;replace HL:=hid (zg1 HL.o (show(decide (ts.length<=6)&&CU ts)=true by rw[decide_eq_true (by have:=HN.o;have:=HN6.o;omega),HR.o.2.1,zU8 (by have:=HI.o;have:=HN.o;omega)];rfl));by_cases a7:c 7<0
 ·have HF:Hi (AJ c ts=197):=zg0 (k:=7) (by decide) HL.o (by show(decide (0<=c 7)&&decide (c 7<=5000))=false;rw[decide_eq_false (by omega)];rfl)
  go_wp2_with fail;go_ret;exact⟨by rw[HF.o];rfl,HK0.o.step HR.o.1⟩
 by_cases b7:5000<c 7
 ·have HF:Hi (AJ c ts=197):=zg0 (k:=7) (by decide) HL.o (by show(decide (0<=c 7)&&decide (c 7<=5000))=false;rw[decide_eq_false (show ¬c 7<=5000 by omega),Bool.and_false])
  go_wp2_with fail;go_ret;exact⟨by rw[HF.o];rfl,HK0.o.step HR.o.1⟩
 replace HL:=hid (zg1 HL.o (show(decide (0<=c 7)&&decide (c 7<=5000))=true by rw[decide_eq_true (by omega),decide_eq_true (by omega)];rfl));by_cases a8:c 8<0
 ·have HF:Hi (AJ c ts=198):=zg0 (k:=8) (by decide) HL.o (by show(decide (0<=c 8)&&decide (c 8<=4))=false;rw[decide_eq_false (by omega)];rfl)
  go_wp2_with fail;go_ret;exact⟨by rw[HF.o];rfl,HK0.o.step HR.o.1⟩
 by_cases b8:4<c 8
 ·have HF:Hi (AJ c ts=198):=zg0 (k:=8) (by decide) HL.o (by show(decide (0<=c 8)&&decide (c 8<=4))=false;rw[decide_eq_false (show ¬c 8<=4 by omega),Bool.and_false])
  go_wp2_with fail;go_ret;exact⟨by rw[HF.o];rfl,HK0.o.step HR.o.1⟩
 replace HL:=hid (zg1 HL.o (show(decide (0<=c 8)&&decide (c 8<=4))=true by rw[decide_eq_true (by omega),decide_eq_true (by omega)];rfl));have HD:=hid (yd8 HL.o);go_wp2_with fail;go_ret;exact⟨by rw[HD.o];rfl,HK0.o.step HR.o.1⟩
end
section
open Go.RowKit Go.Maps
end
section
open Go
section
variable {P:Program} {ops:Array Oper} {Q:Exit->Act->World->Prop} {md:Region.Mode} {S:World->Prop} {n:Nat}
def Clo(md:Region.Mode)(ops:Array Oper)(listed:Array Bool):Prop:=∀(j:Nat) (o:Oper),ops[j]?=some o->listed.getD j false=true->∀e∈o.after,Region.binds md e=true->listed.getD e.on false=true
def wj5(md:Region.Mode)(ops:Array Oper):Nat->Nat->Nat->Bool
 | 0,_,_=>false
 | f+1,j,i=>match ops[j]? with
  | some o=>o.after.any λe=>Region.binds md e&&((e.on==i)||wj5 md ops f e.on i)
  | none=>false
theorem Clo.reach(h:Clo md ops listed):∀(f j i:Nat),wj5 md ops f j i=true->listed.getD j false=true->listed.getD i false=true
 | 0,_,_,hw,_=>by cases hw
 | f+1,j,i,hw,hl=>by
  unfold wj5 at hw
  split at hw
  ·rename_i o ho
   rw[Array.any_eq_true']at hw;obtain⟨e,he,h2⟩:=hw;simp only[Bool.and_eq_true,Bool.or_eq_true,beq_iff_eq]at h2;have hl2:=h j o ho hl e he h2.1;rcases h2.2 with h3 | h3
   ·subst h3;exact hl2
   exact Clo.reach h f _ _ h3 hl2
  cases hw
theorem Clo.ready(h:Clo md ops listed){f j i:Nat}(hw:wj5 md ops f j i=true)(hr:j∈Region.ready md ops listed):listed.getD i false=true:=by
 obtain⟨_,oj,hoj,hall⟩:=mem_ready.1 hr
 cases f with
 | zero=>cases hw
 | succ f =>
  unfold wj5 at hw;rw[hoj]at hw;simp only[Array.any_eq_true',Bool.and_eq_true,Bool.or_eq_true,beq_iff_eq]at hw;obtain⟨e,he,h2⟩:=hw;have hl2:=hall e he h2.1;rcases h2.2 with h3 | h3
  ·subst h3;exact hl2
  exact h.reach f _ _ h3 hl2
theorem Clo.next(h:Clo md ops listed){j:Nat}(hr:j∈Region.ready md ops listed):Clo md ops (listed.setIfInBounds j true):=by
 obtain⟨_,oj,hoj,hall⟩:=mem_ready.1 hr
 have up:∀m,listed.getD m false=true->(listed.setIfInBounds j true).getD m false=true:=λm hm=>by
  by_cases e:j=m
  ·subst e
   have:j<listed.size:=by
    rcases Nat.lt_or_ge j listed.size with h1 | h1
    ·exact h1
    simp[Array.getElem?_eq_none h1]at hm
   simp[this]
  rw[getD_set_ne false e];exact hm
 intro k ok hk hl e he hb;by_cases c:j=k
 ·subst c
  rw[hoj]at hk;cases hk;exact up _ (hall e he hb)
 rw[getD_set_ne false c]at hl;exact up _ (h k ok hk hl e he hb)
end
end
section
open Go.RowKit Go.Maps
theorem VJ.nil(p:Pl):VJ p []:=⟨λv hv=>(by cases hv),λi v hv=>(by simp at hv),⟨List.nodup_nil,λn=>(by simp[many]),λv hv=>(by cases hv),λv hv=>(by cases hv)⟩⟩
end
section
open Go.RowKit Go.Maps
def wo4(g:Nat)(X Y:World):Prop:=X.heap.size<=Y.heap.size/\∀b,b≠g->b<X.heap.size->Y.heap[b]?=X.heap[b]?
theorem wo4.of{g:Nat}{X Y:World}(h:Ok X Y):wo4 g X Y:=⟨h.le,λb _ hb=>Below.block h b hb⟩
theorem wo4.row{g b:Nat}{X Y:World}{o:Obj}(h:wo4 g X Y)(hb:b≠g)(e:X.heap[b]?=some o):Y.heap[b]?=some o:=(h.2 b hb (za2 e)).trans e
end
section
open Go.RowKit Go.Maps
theorem yF9(v:Nat->Value)(c:Nat->Int)(ts:List Int)(tz:Option Addr)(tc:Nat)(b:Bool)(w:World)(hv6:∀i,i<6->∃ao n c,v i=.slice ao n c)(hts:SL w 1 (.slice tz ts.length tc) ts.length (ilL ts))
  (hg:∀Y,Ok w Y->Calls Tryz.prog 23 #[.agg #[v 0,v 1,v 2,v 3,v 4,v 5]] Y λe w'=>e=.returned (.bool b)/\Ok Y w') :
  Calls Tryz.prog 13 #[.agg #[v 0,v 1,v 2,v 3,v 4,v 5],.agg #[nI (c 0),nI (c 1),nI (c 2),nI (c 3),nI (c 4),nI (c 5),.slice tz ts.length tc,nI (c 7),nI (c 8)]] w λe w'=>e=.returned (nI (if b=true then AJ c ts else 2))/\Ok w w':=by
 obtain⟨g0,n0,k0,g1,n1,k1,g2,n2,k2,g3,n3,k3,g4,n4,k4,g5,n5,k5,e0,e1,e2,e3,e4,e5⟩:=DX hv6;rw[e0,e1,e2,e3,e4,e5]at hg;rw[e0,e1,e2,e3,e4,e5];have HG:=hid hg;have HTS:=hid hts;have HCK:Hi (∀Y,Ok w Y->Calls Tryz.prog 24 #[.agg #[nI (c 0),nI (c 1),nI (c 2),nI (c 3),nI (c 4),nI (c 5),.slice tz ts.length tc,nI (c 7),nI (c 8)]] Y λe w'=>e=.returned (nI (AJ c ts))/\Ok Y w'):=λY hY=>yG4 c ts tz tc Y (hts.below hY);obtain⟨tn,htn⟩:=qq (ts.length);rw[<-htn]at HCK ⊢;clear hg hts e0 e1 e2 e3 e4 e5 hv6 htn;go_enter Tryz.func13,Tryz.ntmps13;go_wp2_with fail;refine mq (HG.o _ (((Ok.refl w).alloc _).alloc _)) λw1 hk1=>?_;have HK1:Hi (Ok w w1):=(((Ok.refl w).alloc _).alloc _).step hk1;have HC1:Hi (w1.heap[w.heap.size+1]?=some (.cells #[nI (c 0),nI (c 1),nI (c 2),nI (c 3),nI (c 4),nI (c 5),.slice tz tn tc,nI (c 7),nI (c 8)] 24 (0,0))):=Ok.row' hk1 jj;obtain⟨c0,c1,c2,c3,c4,c5,c6,c7,c8,lgc⟩:=CQ HC1.o;clear hk1 HG
 cases b with
 | false =>
  go_wp2_with fail;go_ret;exact⟨rfl,HK1.o⟩
 | true =>
  go_wp2_with fail;refine mq (HCK.o w1 HK1.o) λw2 hk2=>?_;have HK2:=hid (HK1.o.step hk2);clear hk2;go_wp2_with fail;go_ret;exact⟨rfl,HK2.o⟩
end
end Go.Proofs.YtpongdpnbclchaaGreatDoor
