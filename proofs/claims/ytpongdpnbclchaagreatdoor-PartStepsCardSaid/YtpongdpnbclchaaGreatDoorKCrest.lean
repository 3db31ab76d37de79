import Derived.Test.YtpongdpnbclchaaGreatDoorKClook
set_option maxHeartbeats 8000000
set_option linter.all false
namespace Go.Proofs.YtpongdpnbclchaaGreatDoor
variable{ar:List (ByteArray×Nat)}{b:Nat}{sc:List ByteArray}{w w1:World}
section
open Go.RowKit
theorem AH.below(h:AH w b sc ar)(hb:Below w.heap.size w w1):AH w1 b sc ar:=by have hc:∀o,w1.cell? (aD b o)=w.cell? (aD b o):=λo=>hb.cell (p:=⟨b,o,none⟩) h.lt;have hf:∀o,w1.frozen? (aD b o)=w.frozen? (aD b o):=λo=>hb.frozen (p:=⟨b,o,none⟩) h.lt;exact⟨Nat.lt_of_lt_of_le h.lt hb.size,h.sl,h.al,λi hi=>by rw[hc];exact h.str i hi,λi hi=>by rw[hc];exact h.an i hi,λi hi=>by rw[hc];exact h.av i hi,by rw[hc];exact h.sn,by rw[hc];exact h.aln,λi hi=>by rw[hc];exact h.room i hi,λi=>by rw[hf];exact h.warm i⟩
theorem yC9(l:List ByteArray)(v:List UInt8):∀k:Nat,-1<=AG l v k/\AG l v k<k+l.length:=by
 induction l with
 | nil=>intro k;simp[AG];omega
 | cons a t ih =>
  intro k;unfold AG
  split
  ·simp;omega
  have:=ih (k+1);simp at *;omega
theorem yx2(l:List (ByteArray×Nat))(v:List UInt8):∀k:Nat,-1<=AF l v k/\AF l v k<k+l.length:=by
 induction l with
 | nil=>intro k;simp[AF];omega
 | cons a t ih =>
  intro k;unfold AF
  split
  ·simp;omega
  have:=ih (k+1);simp at *;omega
def wc2(sc:List ByteArray)(ar:List (ByteArray×Nat))(v:List UInt8):Bool:=decide (0<=AG sc v 0)||decide (0<=AF ar v 0)
theorem zZ5(b:Nat)(s:ByteArray)(sc:List ByteArray)(ar:List (ByteArray×Nat))(w:World)(h:AH w b sc ar) :
  Calls Tryz.prog 159 #[pA b 0,.string s] w λe w'=>e=.returned (.bool (wc2 sc ar s.toList))/\Below w.heap.size w w':=by
 have HN:Hi _:=h;clear h;go_enter Tryz.func159,Tryz.ntmps159;go_wp2_with fail;refine(zw6 b s sc ar _ HN.o).mono ?_;rintro e w1 ⟨rfl,n,rfl⟩;have HB:Hi (Below w.heap.size w (w.drewN n)):=below_drewN (Below.refl _ _) n;have HN2:Hi _:=HN.o.below HB.o;have hz:(w.drewN n).heap.size=w.heap.size:=by simp
 generalize w.drewN n=W at *;by_cases hi:0<=AG sc s.toList 0
 ·have HE:Hi (wc2 sc ar s.toList=true):=by unfold Hi wc2;rw[decide_eq_true hi];rfl
  go_wp2_with fail;go_ret;exact⟨za4 HE.o.symm,HB.o⟩
 have HE:Hi (wc2 sc ar s.toList=decide (0<=AF ar s.toList 0)):=by unfold Hi wc2;rw[decide_eq_false hi];rfl
 have hi2:AG sc s.toList 0<0:=by omega
 have hi3:decide (0<=AG sc s.toList 0)=false:=dF_ hi;clear hi;go_wp2_with fail;refine(zD7 b s sc ar _ HN2.o).mono ?_;rintro e w1 ⟨rfl,hb1⟩;have HB1:Hi (Below w.heap.size w w1):=HB.o.trans (hb1.mono oM);clear hb1;go_wp2_with fail;go_ret;exact⟨za4 HE.o.symm,HB1.o⟩
def DH(sc:List ByteArray)(ar:List (ByteArray×Nat))(v:List UInt8)(n:Int):Int×Int:=if 0<=n then (n,0) else if wc2 sc ar v then (0,42) else (0,41)
theorem zD8(b:Nat)(s:ByteArray)(n:Int)(sc:List ByteArray)(ar:List (ByteArray×Nat))(w:World)(h:AH w b sc ar) :
  Calls Tryz.prog 153 #[pA b 0,.string s,nI n] w λe w'=>e=.returned (.tuple #[nI (DH sc ar s.toList n).1,nI (DH sc ar s.toList n).2])/\Below w.heap.size w w':=by
 have HN:Hi _:=h;clear h;by_cases hn:0<=n
 ·have HE:Hi (DH sc ar s.toList n=(n,0)):=by unfold Hi DH;rw[if_pos hn]
  go_enter Tryz.func153,Tryz.ntmps153;go_wp2_with fail
  go_ret2
  exact⟨FJ (by rw[HE.o]) (by rw[HE.o]),Below.refl _ _⟩
 have hn2:n<0:=oM;have HE:Hi (DH sc ar s.toList n=if wc2 sc ar s.toList then (0,42) else (0,41)):=by unfold Hi DH;rw[if_neg hn]
 clear hn;go_enter Tryz.func153,Tryz.ntmps153;go_wp2_with fail;refine mq (zZ5 b s sc ar _ HN.o) λw1 hb1=>?_;cases hh:wc2 sc ar s.toList
 all_goals
  rw[hh]at HE;go_wp2_with fail
  go_ret2
  exact⟨FJ (by rw[HE.o];rfl) (by rw[HE.o];rfl),hb1⟩
def we0(b:Nat)(w w':World):Prop:=∀o,16<=o->w'.cell? (aD b o)=w.cell? (aD b o)
theorem zw2(b:Nat)(s:ByteArray)(sc:List ByteArray)(ar:List (ByteArray×Nat))(w:World)(h:AH w b sc ar)(h8:sc.length=8) :
  Calls Tryz.prog 160 #[pA b 0,.string s] w λe w'=>e=.returned (.tuple #[nI 0,nI 44])/\w'=w:=by
 have c:=h.sn;rw[h8]at c;clear h h8;go_enter Tryz.func160,Tryz.ntmps160;go_wp2_with fail
 go_ret2
 exact⟨rfl,rfl⟩
theorem zD9(h:AH w b sc ar)(h8:sc.length<8)(s:ByteArray) :
  AH ((w.setCell ⟨b,sc.length,none⟩ (.string s)).setCell (aD b 14) (nI ((sc.length:Int)+1))) b (sc++[s]) ar/\we0 b w ((w.setCell ⟨b,sc.length,none⟩ (.string s)).setCell (aD b 14) (nI ((sc.length:Int)+1))):=by
 obtain⟨v0,r0⟩:=h.room sc.length oM;obtain⟨v1,r1⟩:=cell?_setCell_some (p:=⟨b,sc.length,none⟩) (x:=.string s) h.sn
 have key:∀o,((w.setCell ⟨b,sc.length,none⟩ (.string s)).setCell (aD b 14) (nI ((sc.length:Int)+1))).cell? (aD b o)=if o=14 then some (nI ((sc.length:Int)+1)) else if o=sc.length then some (.string s) else w.cell? (aD b o):=λo=>by rw[cs _ b 14 o _ _ r1,cs _ b sc.length o _ _ r0]
 have hal:=h.al;refine⟨⟨by simpa using h.lt,by simp;omega,h.al,?_,?_,?_,?_,?_,?_,λi=>by simpa using h.warm i⟩,?_⟩
 ·intro i hi
  simp at hi;rw[key,if_neg (by omega)];by_cases e:i=sc.length
  ·rw[if_pos e];simp[e]
  rw[if_neg e,h.str i (by omega),List.getElem_append_left (by omega)]
 ·intro i hi
  rw[key,if_neg (by omega),if_neg (by omega)];exact h.an i hi
 ·intro i hi
  rw[key,if_neg (by omega),if_neg (by omega)];exact h.av i hi
 ·rw[key,if_pos rfl];simp
 ·rw[key,if_neg (by omega),if_neg (by omega)];exact h.aln
 ·intro i hi
  rw[key]
  split
  ·exact⟨_,rfl⟩
  split
  ·exact⟨_,rfl⟩
  exact h.room i hi
 intro o ho;rw[key,if_neg (by omega),if_neg (by omega)]
theorem zz2(b:Nat)(s:ByteArray)(sc:List ByteArray)(ar:List (ByteArray×Nat))(w:World)(h:AH w b sc ar)(h8:sc.length<8) :
  Calls Tryz.prog 160 #[pA b 0,.string s] w λe w'=>e=.returned (.tuple #[nI sc.length,nI 0])/\AD b w w'/\AH w' b (sc++[s]) ar/\we0 b w w':=by
 have HN:Hi _:=zD9 h h8 s;have c:=h.sn;have hlt:=h.lt;have hfz:=h.warm;have hl1:(sc.length:Int)<8:=oM;have hl2:((sc.length:Int)==8)=false:=by rw[beq_eq_false_iff_ne];omega
 have hl3:¬sc.length=14:=oM;have hl4:¬14=sc.length:=oM;obtain⟨v0,r0⟩:=h.room sc.length oM;clear h;go_enter Tryz.func160,Tryz.ntmps160;go_wp2_with fail
 go_region
 go_wp2_with fail
 go_ret2
 exact⟨rfl,AD.drew (AD.set (AD.set (AD.of (Below.refl _ _)) _ _) _ _),HN.o.1.below ((Below.refl _ _).drew),HN.o.2⟩
theorem zz3(b:Nat)(s:ByteArray)(n:Int)(sc:List ByteArray)(ar:List (ByteArray×Nat))(w:World)(h:AH w b sc ar)(h3:ar.length=3) :
  Calls Tryz.prog 161 #[pA b 0,.agg #[.string s,nI n]] w λe w'=>e=.returned (.tuple #[nI 0,nI 45])/\Below w.heap.size w w':=by
 have c:=h.aln;have hlt:=h.lt;rw[h3]at c;have hne:¬b=w.heap.size:=oM;clear h h3;go_enter Tryz.func161,Tryz.ntmps161;go_wp2_with fail
 go_ret2
 exact⟨rfl,(Below.refl _ _).alloc (nR_ _) _⟩
theorem AD.alloc(h:AD b w w1)(o:Obj):AD b w (w1.alloc o) :=
 ⟨h.low.alloc (zL_ _) o,λq hq hl=>(Below.heap_alloc w1 o q (lL_ hl h.low.size)).trans (h.block q hq hl)⟩
theorem zJ4(h:AH w b sc ar)(h3:ar.length<3)(s:ByteArray)(n:Nat) :
  AH (((w.setCell ⟨b,8+ar.length*2,none⟩ (.string s)).setCell ⟨b,8+ar.length*2+1,none⟩ (nI n)).setCell (aD b 15) (nI ((ar.length:Int)+1))) b sc (ar++[(s,n)])/\we0 b w (((w.setCell ⟨b,8+ar.length*2,none⟩ (.string s)).setCell ⟨b,8+ar.length*2+1,none⟩ (nI n)).setCell (aD b 15) (nI ((ar.length:Int)+1))):=by
 obtain⟨v0,r0⟩:=h.room (8+ar.length*2) oM;obtain⟨v1,r1⟩:=h.room (8+ar.length*2+1) oM;obtain⟨x1,s1⟩:=cell?_setCell_some (p:=⟨b,8+ar.length*2,none⟩) (x:=.string s) r1;obtain⟨x2,s2⟩:=cell?_setCell_some (p:=⟨b,8+ar.length*2,none⟩) (x:=.string s) h.aln;obtain⟨y2,t2⟩:=cell?_setCell_some (p:=⟨b,8+ar.length*2+1,none⟩) (x:=nI n) s2
 have key:∀o,(((w.setCell ⟨b,8+ar.length*2,none⟩ (.string s)).setCell ⟨b,8+ar.length*2+1,none⟩ (nI n)).setCell (aD b 15) (nI ((ar.length:Int)+1))).cell? (aD b o)=if o=15 then some (nI ((ar.length:Int)+1)) else if o=8+ar.length*2+1 then some (nI n) else if o=8+ar.length*2 then some (.string s) else w.cell? (aD b o):=λo=>by rw[cs _ b 15 o _ _ t2,cs _ b (8+ar.length*2+1) o _ _ s1,cs _ b (8+ar.length*2) o _ _ r0]
 have hsl:=h.sl;refine⟨⟨by simpa using h.lt,h.sl,by simp;omega,?_,?_,?_,?_,?_,?_,λi=>by simpa using h.warm i⟩,?_⟩
 ·intro i hi
  rw[key,if_neg (by omega),if_neg (by omega),if_neg (by omega)];exact h.str i hi
 ·intro i hi
  simp at hi;rw[key,if_neg (by omega),if_neg (by omega)];by_cases e:i=ar.length
  ·rw[if_pos (by omega)];simp[e]
  rw[if_neg (by omega),h.an i (by omega),List.getElem_append_left (by omega)]
 ·intro i hi
  simp at hi;rw[key,if_neg (by omega)];by_cases e:i=ar.length
  ·rw[if_pos (by omega)];simp[e]
  rw[if_neg (by omega),if_neg (by omega),h.av i (by omega),List.getElem_append_left (by omega)]
 ·rw[key,if_neg (by omega),if_neg (by omega),if_neg (by omega)];exact h.sn
 ·rw[key,if_pos rfl];simp
 ·intro i hi
  rw[key]
  repeat' split
  all_goals first | exact⟨_,rfl⟩ | exact h.room i hi
 intro o ho;rw[key,if_neg (by omega),if_neg (by omega),if_neg (by omega)]
theorem zE0(b:Nat)(s:ByteArray)(n:Nat)(sc:List ByteArray)(ar:List (ByteArray×Nat))(w:World)(h:AH w b sc ar)(h3:ar.length<3) :
  Calls Tryz.prog 161 #[pA b 0,.agg #[.string s,nI n]] w λe w'=>e=.returned (.tuple #[nI ar.length,nI 0])/\AD b w w'/\AH w' b sc (ar++[(s,n)])/\we0 b w w':=by
 have HN:Hi _:=zJ4 h h3 s n;have c:=h.aln;have hlt:=h.lt;have hfz:=h.warm;have hl1:(ar.length:Int)<3:=oM;have hl2:((ar.length:Int)==3)=false:=by rw[beq_eq_false_iff_ne];omega
 have hne:¬b=w.heap.size:=oM;have hne2:¬w.heap.size=b:=oM;obtain⟨v0,r0⟩:=h.room (8+ar.length*2) oM;obtain⟨v1,r1⟩:=h.room (8+ar.length*2+1) oM;clear h;go_enter Tryz.func161,Tryz.ntmps161;go_wp2_with fail
 go_region
 go_wp2_with fail
 go_ret2
 have hA:∀{W:World} {o:Obj},Below W.heap.size W (W.alloc o).drew:=((Below.refl _ _).alloc (nR_ _) _).drew;refine⟨rfl,AD.drew (AD.alloc (AD.set (AD.set (AD.set (AD.of (Below.refl _ _)) _ _) _ _) _ _) _),HN.o.1.below hA,λo ho=>?_⟩;exact(hA.cell (p:=⟨b,o,none⟩) (by simpa using hlt)).trans (HN.o.2 o ho)
def BT(sc:List ByteArray)(ar:List (ByteArray×Nat))(n:Nd):Int×Int×List ByteArray×List (ByteArray×Nat) :=
 if wc2 sc ar n.name.toList then (0,40,sc,ar)
 else if n.kind=0 then (if sc.length=8 then (0,44,sc,ar) else (sc.length,0,sc++[n.name],ar))
 else if n.num<1\/16<n.num then (0,43,sc,ar)
 else if ar.length=3 then (0,45,sc,ar) else (ar.length,0,sc,ar++[(n.name,n.num.toNat)])
structure CW(b:Nat)(w w':World)(sc:List ByteArray)(ar:List (ByteArray×Nat)):Prop where
 beside:AD b w w'
 names:AH w' b sc ar
 keep:we0 b w w'
theorem CW.of{w':World}(h:AH w b sc ar)(hb:Below w.heap.size w w'):CW b w w' sc ar :=
 ⟨AD.of hb,h.below hb,λo _=>hb.cell (p:=⟨b,o,none⟩) h.lt⟩
theorem CW.after{w2:World}{sc1:List ByteArray}{ar1:List (ByteArray×Nat)}(h:AH w b sc ar)(hb:Below w.heap.size w w1)(h2:CW b w1 w2 sc1 ar1):CW b w w2 sc1 ar1 :=
 ⟨⟨(hb.mono (zL_ _)).trans h2.beside.low,λq hq hl=>(h2.beside.block q hq (lL_ hl hb.size)).trans (hb.block q hl)⟩,h2.names,λo ho=>(h2.keep o ho).trans (hb.cell (p:=⟨b,o,none⟩) h.lt)⟩
theorem zJ5(b:Nat)(n:Nd)(sc:List ByteArray)(ar:List (ByteArray×Nat))(w:World)(h:AH w b sc ar) :
  Calls Tryz.prog 152 #[pA b 0,DL n] w λe w'=>e=.returned (.tuple #[nI (BT sc ar n).1,nI (BT sc ar n).2.1])/\CW b w w' (BT sc ar n).2.2.1 (BT sc ar n).2.2.2:=by
 have HN:Hi _:=h;have hlt:=h.lt;clear h;have HB0:Hi (Below w.heap.size w (w.alloc (.cells #[nI n.depth,nI n.kind,.string n.name,nI n.num,nI n.op,nI n.pos] 78))):=(Below.refl _ _).alloc (nR_ _) _;go_enter Tryz.func152,Tryz.ntmps152;go_wp2_with fail;refine mq (zZ5 b n.name sc ar _ (HN.o.below HB0.o)) λw1 hb1=>?_;have HB1:Hi (Below w.heap.size w w1):=HB0.o.trans (hb1.mono sI);have HN1:Hi _:=HN.o.below HB1.o;have d1:w1.cell? (aD w.heap.size 1)=some (nI n.kind):=by rw[(wa6 hb1).1 _ _ (by simp)];simp[go_sem]
 have d2:w1.cell? (aD w.heap.size 2)=some (.string n.name):=by rw[(wa6 hb1).1 _ _ (by simp)];simp[go_sem]
 have d3:w1.cell? (aD w.heap.size 3)=some (nI n.num):=by rw[(wa6 hb1).1 _ _ (by simp)];simp[go_sem]
 clear hb1;cases hh:wc2 sc ar n.name.toList
 ·by_cases hk:n.kind=0
  ·by_cases h8:sc.length=8
   ·have HE:Hi (BT sc ar n=(0,44,sc,ar)):=by unfold Hi BT;rw[hh,if_neg (by simp),if_pos hk,if_pos h8]
    go_wp2_with fail;refine mq (zw2 b n.name sc ar _ HN1.o h8) λw2 hw2=>?_;replace hw2:=hw2.symm;subst hw2;go_wp2_with fail
    go_ret2
    rw[HE.o];exact⟨rfl,CW.of HN.o HB1.o⟩
   have hs8:=HN1.o.sl;have HE:Hi (BT sc ar n=((sc.length:Int),0,sc++[n.name],ar)):=by unfold Hi BT;rw[hh,if_neg (by simp),if_pos hk,if_neg h8]
   go_wp2_with fail;refine mq (zz2 b n.name sc ar _ HN1.o oM) λw2 ⟨hb2,hn2,hk2⟩=>?_;go_wp2_with fail
   go_ret2
   rw[HE.o];exact⟨rfl,CW.after HN.o HB1.o ⟨hb2,hn2,hk2⟩⟩
  have hk':(n.kind==0)=false:=by rw[beq_eq_false_iff_ne];exact hk
  by_cases hnum:n.num<1\/16<n.num
  ·have HE:Hi (BT sc ar n=(0,43,sc,ar)):=by unfold Hi BT;rw[hh,if_neg (by simp),if_neg hk,if_pos hnum]
   by_cases h1:n.num<1
   ·go_wp2_with fail
    go_ret2
    rw[HE.o];exact⟨rfl,CW.of HN.o HB1.o⟩
   have h16:16<n.num:=oM;have h1':1<=n.num:=oM;clear h1 hnum;go_wp2_with fail
   go_ret2
   rw[HE.o];exact⟨rfl,CW.of HN.o HB1.o⟩
  have h1':1<=n.num:=oM;have h16:n.num<=16:=oM;have g1:decide (n.num<1)=false:=dF_ oM;have g2:decide (16<n.num)=false:=dF_ oM;obtain⟨nn,hnn⟩:=Int.eq_ofNat_of_zero_le (show 0<=n.num by omega);have HNN:Hi (n.num.toNat=nn):=by unfold Hi;omega
  by_cases h3:ar.length=3
  ·have HE:Hi (BT sc ar n=(0,45,sc,ar)):=by unfold Hi BT;rw[hh,if_neg (by simp),if_neg hk,if_neg hnum,if_pos h3]
   clear hnum hnn;go_wp2_with fail;refine mq (zz3 b n.name _ sc ar _ HN1.o h3) λw2 hb2=>?_;go_wp2_with fail
   go_ret2
   rw[HE.o];exact⟨rfl,CW.after HN.o HB1.o (CW.of HN1.o hb2)⟩
  have ha3:=HN1.o.al;have HE:Hi (BT sc ar n=((ar.length:Int),0,sc,ar++[(n.name,nn)])):=by unfold Hi BT;rw[hh,if_neg (by simp),if_neg hk,if_neg hnum,if_neg h3,HNN.o]
  clear hnum;have HNM:=hid hnn;clear hnn;go_wp2_with fail;rw[HNM.o];refine mq (zE0 b n.name nn sc ar _ HN1.o oM) λw2 ⟨hb2,hn2,hk2⟩=>?_;go_wp2_with fail
  go_ret2
  rw[HE.o];exact⟨rfl,CW.after HN.o HB1.o ⟨hb2,hn2,hk2⟩⟩
 have HE:Hi (BT sc ar n=(0,40,sc,ar)):=by unfold Hi BT;rw[hh,if_pos rfl]
 go_wp2_with fail
 go_ret2
 rw[HE.o];exact⟨rfl,CW.of HN.o HB1.o⟩
def CJ(sc:List ByteArray)(ar:List (ByteArray×Nat))(n:Nd):Int×Int×List ByteArray×List (ByteArray×Nat) :=
 if n.kind=0\/n.kind=1 then BT sc ar n
 else if n.kind=2\/n.kind=4\/n.kind=12 then ((DH sc ar n.name.toList (AG sc n.name.toList 0)).1,(DH sc ar n.name.toList (AG sc n.name.toList 0)).2,sc,ar)
 else if n.kind=3\/n.kind=13 then ((DH sc ar n.name.toList (AF ar n.name.toList 0)).1,(DH sc ar n.name.toList (AF ar n.name.toList 0)).2,sc,ar)
 else (-1,0,sc,ar)
end
section
open Go.RowKit
theorem zT4(b:Nat)(n:Nd)(sc:List ByteArray)(ar:List (ByteArray×Nat))(w:World)(h:AH w b sc ar) :
  Calls Tryz.prog 143 #[pA b 0,DL n] w λe w'=>e=.returned (.tuple #[nI (CJ sc ar n).1,nI (CJ sc ar n).2.1])/\CW b w w' (CJ sc ar n).2.2.1 (CJ sc ar n).2.2.2:=by
 have HN:Hi _:=h;have hlt:=h.lt;clear h;obtain⟨nd,nk,nm,nu,no,np⟩:=n;have HB0:Hi (∀o,Below w.heap.size w (w.alloc o)):=λo=>(Below.refl _ _).alloc (nR_ _) _;by_cases k01:nk=0\/nk=1
 ·have HE:Hi (CJ sc ar ⟨nd,nk,nm,nu,no,np⟩=BT sc ar ⟨nd,nk,nm,nu,no,np⟩):=by unfold Hi CJ;rw[if_pos k01]
  go_enter Tryz.func143,Tryz.ntmps143;rcases k01 with rfl | rfl
  all_goals
   go_wp2_with fail;refine(zJ5 b ⟨nd,_,nm,nu,no,np⟩ sc ar _ (HN.o.below (HB0.o _))).mono ?_;rintro e w1 ⟨rfl,hn1⟩;go_wp2_with fail
   go_ret2
   rw[HE.o];exact⟨rfl,CW.after HN.o (HB0.o _) hn1⟩
 have a0:¬nk=0:=λh=>k01 (.inl h);have a1:¬nk=1:=λh=>k01 (.inr h);have b0:(nk==0)=false:=by rw[beq_eq_false_iff_ne];exact a0
 have b1:(nk==1)=false:=by rw[beq_eq_false_iff_ne];exact a1
 by_cases k2:nk=2\/nk=4\/nk=12
 ·have HE:Hi (CJ sc ar ⟨nd,nk,nm,nu,no,np⟩=((DH sc ar nm.toList (AG sc nm.toList 0)).1,(DH sc ar nm.toList (AG sc nm.toList 0)).2,sc,ar)):=by unfold Hi CJ;rw[if_neg k01,if_pos k2]
  clear k01;go_enter Tryz.func143,Tryz.ntmps143;rcases k2 with rfl | rfl | rfl
  all_goals
   go_wp2_with fail
   go_region_with (first
    |(go_at_call 154;refine(zw6 b nm sc ar _ (HN.o.below (by first | exact(HB0.o _).drew | exact HB0.o _))).mono ?_;rintro e w1 ⟨rfl,n1,rfl⟩)
    |(go_at_call 153;refine(zD8 b nm _ sc ar _ (HN.o.below (by first | exact below_drewN (HB0.o _).drew _ | exact below_drewN (HB0.o _) _))).mono ?_;rintro e w2 ⟨rfl,hb2⟩))
   all_goals
    go_wp2_with fail
    go_ret2
    rw[HE.o];refine⟨rfl,CW.of HN.o ?_⟩
    first
     | exact(below_drewN (HB0.o _).drew _).trans (hb2.mono sI)
     | exact(below_drewN (HB0.o _) _).trans (hb2.mono sI)
 by_cases k3:nk=3\/nk=13
 ·have HE:Hi (CJ sc ar ⟨nd,nk,nm,nu,no,np⟩=((DH sc ar nm.toList (AF ar nm.toList 0)).1,(DH sc ar nm.toList (AF ar nm.toList 0)).2,sc,ar)):=by unfold Hi CJ;rw[if_neg k01,if_neg k2,if_pos k3]
  clear k01 k2;go_enter Tryz.func143,Tryz.ntmps143;rcases k3 with rfl | rfl
  all_goals
   go_wp2_with fail
   go_region_with (first
    |(go_at_call 155;refine(zD7 b nm sc ar _ (HN.o.below (by first | exact(HB0.o _).drew | exact HB0.o _))).mono ?_;rintro e w1 ⟨rfl,hb1⟩;have c2:w1.cell? (aD w.heap.size 2)=some (.string nm):=(hb1.cell (p:=⟨w.heap.size,2,none⟩) (by simp)).trans (by simp[go_sem]))
    |(go_at_call 153;refine(zD8 b nm _ sc ar _ (HN.o.below (by first | exact((HB0.o _).drew).trans (hb1.mono sI) | exact(HB0.o _).trans (hb1.mono sI)))).mono ?_;rintro e w2 ⟨rfl,hb2⟩))
   all_goals
    go_wp2_with fail
    go_ret2
    rw[HE.o];refine⟨rfl,CW.of HN.o ?_⟩
    first
     | exact(((HB0.o _).drew).trans (hb1.mono sI)).trans (hb2.mono (Nat.le_trans sI hb1.size))
     | exact((HB0.o _).trans (hb1.mono sI)).trans (hb2.mono (Nat.le_trans sI hb1.size))
 have HE:Hi (CJ sc ar ⟨nd,nk,nm,nu,no,np⟩=(-1,0,sc,ar)):=by unfold Hi CJ;rw[if_neg k01,if_neg k2,if_neg k3]
 have b2:(nk==2)=false:=by rw[beq_eq_false_iff_ne];exact λh=>k2 (.inl h)
 have b4:(nk==4)=false:=by rw[beq_eq_false_iff_ne];exact λh=>k2 (.inr (.inl h))
 have b12:(nk==12)=false:=by rw[beq_eq_false_iff_ne];exact λh=>k2 (.inr (.inr h))
 have b3:(nk==3)=false:=by rw[beq_eq_false_iff_ne];exact λh=>k3 (.inl h)
 have b13:(nk==13)=false:=by rw[beq_eq_false_iff_ne];exact λh=>k3 (.inr h)
 clear k01 k2 k3 a0 a1;go_enter Tryz.func143,Tryz.ntmps143;go_wp2_with fail
 go_ret2
 rw[HE.o];exact⟨rfl,CW.of HN.o (HB0.o _)⟩
end
section
open Go.RowKit
structure Rd where
 sc:List ByteArray
 ar:List (ByteArray×Nat)
 sy:List Int
 so:List Int
 si:List Nat
 nu:Nat->Bool
structure AZ(w:World)(b:Nat)(r:Rd):Prop where
 len:r.so.length=r.sy.length
 most:r.sy.length<=300
 sites:r.si.length<=12
 sy:∀(i:Nat) (h:i<r.sy.length),w.cell? ⟨b,16+i,none⟩=some (nI r.sy[i])
 so:∀(i:Nat) (h:i<r.so.length),w.cell? ⟨b,316+i,none⟩=some (nI r.so[i])
 si:∀(i:Nat) (h:i<r.si.length),w.cell? ⟨b,616+i,none⟩=some (nI r.si[i])
 found:w.cell? (aD b 628)=some (nI r.si.length)
 nu:∀d,d<25->w.cell? ⟨b,629+d,none⟩=some (.bool (r.nu d))
 room:∀o,16<=o->o<654->∃v,w.cell? (aD b o)=some v
structure BV(w:World)(b:Nat)(r:Rd):Prop where
 names:AH w b r.sc r.ar
 rest:AZ w b r
theorem AZ.keep{r:Rd}(h:AZ w b r)(hk:we0 b w w1):AZ w1 b r :=
 ⟨h.len,h.most,h.sites,λi hi=>by rw[hk _ (by omega)];exact h.sy i hi,λi hi=>by rw[hk _ (by omega)];exact h.so i hi,λi hi=>by rw[hk _ (by omega)];exact h.si i hi,by rw[hk _ (by omega)];exact h.found,λd hd=>by rw[hk _ (by omega)];exact h.nu d hd,λo h1 h2=>by rw[hk _ h1];exact h.room o h1 h2⟩
theorem AZ.below{r:Rd}(h:AZ w b r)(hlt:b<w.heap.size)(hb:Below w.heap.size w w1):AZ w1 b r :=
 h.keep (λo _=>hb.cell (p:=⟨b,o,none⟩) hlt)
def CO(r:Rd)(i:Nat)(n:Nd):Int×Rd :=
 let s:=CJ r.sc r.ar n
 if s.2.1≠0 then (s.2.1,r)
 else if EW n&&(DP n != r.nu (n.depth-1).toNat) then (42,r)
 else if DC n&&r.si.length==12 then (46,r)
 else (0,⟨s.2.2.1,s.2.2.2,r.sy++[s.1],r.so++[if DC n then (r.si.length:Int) else -1],if DC n then r.si++[i] else r.si,λd=>if d=n.depth.toNat then DM n else r.nu d⟩)
end
section
open Go.RowKit
theorem AH.hi(h:AH w b sc ar){o:Nat}(ho:16<=o){u:Value}(hu:w.cell? (aD b o)=some u)(v:Value):AH (w.setCell (aD b o) v) b sc ar:=by
 have hs:=h.sl;have ha:=h.al;have key:∀o',o'<16->(w.setCell (aD b o) v).cell? ⟨b,o',none⟩=w.cell? ⟨b,o',none⟩:=λo' h'=>by rw[cs _ b o o' _ _ hu,if_neg (by omega)]
 exact⟨by simpa using h.lt,h.sl,h.al,λi hi=>by rw[key _ (by omega)];exact h.str i hi,λi hi=>by rw[key _ (by omega)];exact h.an i hi,λi hi=>by rw[key _ (by omega)];exact h.av i hi,by rw[key _ (by omega)];exact h.sn,by rw[key _ (by omega)];exact h.aln,λi hi=>by rw[key _ hi];exact h.room i hi,λi=>by simpa using h.warm i⟩
theorem zg8{o:Nat}{u v:Value}(hu:w.cell? (aD b o)=some u)(h:∀o',16<=o'->o'<654->∃x,w.cell? ⟨b,o',none⟩=some x):∀o',16<=o'->o'<654->∃x,(w.setCell (aD b o) v).cell? ⟨b,o',none⟩=some x:=λo' h1 h2=>by
 rw[cs _ b o o' _ _ hu]
 split
 ·exact⟨_,rfl⟩
 exact h o' h1 h2
theorem AZ.nu_set{r:Rd}(h:AZ w b r){d:Nat}(hd:d<25)(v:Bool):AZ (w.setCell ⟨b,629+d,none⟩ (.bool v)) b { r with nu:=λx=>if x=d then v else r.nu x }:=by
 have hu:=h.nu d hd;have hm:=h.most;have hs:=h.sites;have hl:=h.len;refine⟨h.len,h.most,h.sites,λi hi=>?_,λi hi=>?_,λi hi=>?_,?_,λx hx=>?_,zg8 hu h.room⟩
 ·have hi':i<r.sy.length:=hi
  rw[cs _ b _ _ _ _ hu,if_neg (by omega)];exact h.sy i hi
 ·have hi':i<r.so.length:=hi
  rw[cs _ b _ _ _ _ hu,if_neg (by omega)];exact h.so i hi
 ·have hi':i<r.si.length:=hi
  rw[cs _ b _ _ _ _ hu,if_neg (by omega)];exact h.si i hi
 ·rw[cs _ b _ _ _ _ hu,if_neg (by omega)];exact h.found
 rw[cs _ b _ _ _ _ hu];by_cases e:x=d
 ·subst e;simp
 rw[if_neg (by omega),h.nu x hx];simp[e]
theorem AZ.push{r:Rd}(h:AZ w b r)(h3:r.sy.length<300)(s t:Int):AZ ((w.setCell ⟨b,16+r.sy.length,none⟩ (nI s)).setCell ⟨b,316+r.sy.length,none⟩ (nI t)) b { r with sy:=r.sy++[s],so:=r.so++[t] }:=by
 obtain⟨v0,r0⟩:=h.room (16+r.sy.length) oM oM;obtain⟨v1,r1⟩:=zg8 (v:=nI s) r0 h.room (316+r.sy.length) oM oM;have hm:=h.most;have hs:=h.sites;have hl:=h.len
 have key:∀o,((w.setCell ⟨b,16+r.sy.length,none⟩ (nI s)).setCell ⟨b,316+r.sy.length,none⟩ (nI t)).cell? (aD b o)=if o=316+r.sy.length then some (nI t) else if o=16+r.sy.length then some (nI s) else w.cell? (aD b o):=λo=>by rw[cs _ b _ o _ _ r1,cs _ b _ o _ _ r0]
 refine⟨by simp[hl],by simp;omega,h.sites,λi hi=>?_,λi hi=>?_,λi hi=>?_,?_,λx hx=>?_,zg8 r1 (zg8 r0 h.room)⟩
 ·have hi':i<r.sy.length+1:=by simpa using hi
  rw[key,if_neg (by omega)];by_cases e:i=r.sy.length
  ·rw[if_pos (by omega)];simp[e]
  rw[if_neg (by omega),h.sy i (by omega)];simp[List.getElem_append_left (show i<r.sy.length by omega)]
 ·have hi':i<r.so.length+1:=by simpa using hi
  rw[key];by_cases e:i=r.so.length
  ·rw[if_pos (by omega)];simp[e]
  rw[if_neg (by omega),if_neg (by omega),h.so i (by omega)];simp[List.getElem_append_left (show i<r.so.length by omega)]
 ·have hi':i<r.si.length:=hi
  rw[key,if_neg (by omega),if_neg (by omega)];exact h.si i hi
 ·rw[key,if_neg (by omega),if_neg (by omega)];exact h.found
 rw[key,if_neg (by omega),if_neg (by omega)];exact h.nu x hx
theorem AZ.site{r:Rd}{so:List Int}{t:Int}(h:AZ w b r)(hso:r.so=so++[t])(i:Nat)(h12:r.si.length<12) :
  AZ (((w.setCell ⟨b,316+so.length,none⟩ (nI r.si.length)).setCell ⟨b,616+r.si.length,none⟩ (nI i)).setCell (aD b 628) (nI ((r.si.length:Int)+1))) b { r with so:=so++[(r.si.length:Int)],si:=r.si++[i] }:=by
 have hm:=h.most;have hl:=h.len;have hq:r.so.length=so.length+1:=by rw[hso];simp
 obtain⟨v0,r0⟩:=h.room (316+so.length) oM oM;have m0:=zg8 (v:=nI r.si.length) r0 h.room;obtain⟨v1,r1⟩:=m0 (616+r.si.length) oM oM;have m1:=zg8 (v:=nI i) r1 m0;obtain⟨v2,r2⟩:=m1 628 oM oM
 have key:∀o,(((w.setCell ⟨b,316+so.length,none⟩ (nI r.si.length)).setCell ⟨b,616+r.si.length,none⟩ (nI i)).setCell (aD b 628) (nI ((r.si.length:Int)+1))).cell? (aD b o)=if o=628 then some (nI ((r.si.length:Int)+1)) else if o=616+r.si.length then some (nI i) else if o=316+so.length then some (nI r.si.length) else w.cell? (aD b o):=λo=>by rw[cs _ b _ o _ _ r2,cs _ b _ o _ _ r1,cs _ b _ o _ _ r0]
 refine⟨by simp;omega,hm,by simp;omega,λj hj=>?_,λj hj=>?_,λj hj=>?_,?_,λx hx=>?_,zg8 r2 m1⟩
 ·have hj':j<r.sy.length:=hj
  rw[key,if_neg (by omega),if_neg (by omega),if_neg (by omega)];exact h.sy j hj
 ·have hj':j<so.length+1:=by simpa using hj
  rw[key,if_neg (by omega),if_neg (by omega)];by_cases e:j=so.length
  ·rw[if_pos (by omega)];simp[e]
  rw[if_neg (by omega),h.so j (by omega)];simp[hso,List.getElem_append_left (show j<so.length by omega)]
 ·have hj':j<r.si.length+1:=by simpa using hj
  rw[key,if_neg (by omega)];by_cases e:j=r.si.length
  ·rw[if_pos (by omega)];simp[e]
  rw[if_neg (by omega),if_neg (by omega),h.si j (by omega)];simp[List.getElem_append_left (show j<r.si.length by omega)]
 ·rw[key,if_pos rfl];simp
 rw[key,if_neg (by omega),if_neg (by omega),if_neg (by omega)];exact h.nu x hx
theorem AZ.other{r:Rd}(h:AZ w b r)(sc:List ByteArray)(ar:List (ByteArray×Nat)):AZ w b { r with sc:=sc,ar:=ar } :=
 ⟨h.len,h.most,h.sites,h.sy,h.so,h.si,h.found,h.nu,h.room⟩
theorem AZ.site_names{r:Rd}{so:List Int}{t:Int}(h:AZ w b r)(hn:AH w b sc ar)(hso:r.so=so++[t])(i:Nat)(h12:r.si.length<12) :
  AH (((w.setCell ⟨b,316+so.length,none⟩ (nI r.si.length)).setCell ⟨b,616+r.si.length,none⟩ (nI i)).setCell (aD b 628) (nI ((r.si.length:Int)+1))) b sc ar:=by
 have hm:=h.most;have hl:=h.len;have hq:r.so.length=so.length+1:=by rw[hso];simp
 obtain⟨v0,r0⟩:=h.room (316+so.length) oM oM;have m0:=zg8 (v:=nI r.si.length) r0 h.room;obtain⟨v1,r1⟩:=m0 (616+r.si.length) oM oM;have m1:=zg8 (v:=nI i) r1 m0;obtain⟨v2,r2⟩:=m1 628 oM oM;exact((hn.hi oM r0 _).hi oM r1 _).hi oM r2 _
structure NdC(w:World)(g:Nat)(n:Nd):Prop where
 lt:g<w.heap.size
 c0:w.cell? (aD g 0)=some (nI n.depth)
 c1:w.cell? (aD g 1)=some (nI n.kind)
 c2:w.cell? (aD g 2)=some (.string n.name)
 c3:w.cell? (aD g 3)=some (nI n.num)
 c4:w.cell? (aD g 4)=some (nI n.op)
 c5:w.cell? (aD g 5)=some (nI n.pos)
theorem NdC.below{g:Nat}{n:Nd}(h:NdC w g n)(hb:Below w.heap.size w w1):NdC w1 g n :=
 have k:∀o,w1.cell? (aD g o)=w.cell? (aD g o):=λo=>hb.cell (p:=⟨g,o,none⟩) h.lt
 ⟨lL_ h.lt hb.size,(k 0).trans h.c0,(k 1).trans h.c1,(k 2).trans h.c2,(k 3).trans h.c3,(k 4).trans h.c4,(k 5).trans h.c5⟩
theorem NdC.beside{g:Nat}{n:Nd}(h:NdC w g n)(hg:g≠b)(hb:AD b w w1):NdC w1 g n :=
 have k:∀o,w1.cell? (aD g o)=w.cell? (aD g o):=λo=>hb.cell hg h.lt
 ⟨lL_ h.lt hb.low.size,(k 0).trans h.c0,(k 1).trans h.c1,(k 2).trans h.c2,(k 3).trans h.c3,(k 4).trans h.c4,(k 5).trans h.c5⟩
theorem AD.trans{w2:World}(h:AD b w w1)(h2:AD b w1 w2):AD b w w2 :=
 ⟨h.low.trans h2.low,λq hq hl=>(h2.block q hq (lL_ hl h.low.size)).trans (h.block q hq hl)⟩
end
end Go.Proofs.YtpongdpnbclchaaGreatDoor
