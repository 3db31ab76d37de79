import Derived.Test.YthoegkcpmgalbaaGreatDoorKLk
set_option maxHeartbeats 8000000
set_option linter.all false
namespace Go.Proofs.YthoegkcpmgalbaaGreatDoor
open Go.RowKit
def kwL(l:List UInt8):Bool:=l==[118,97,114]||l==[97,114,114,97,121]||l==[105,110,112,117,116]||l==[97,115,115,101,114,116]||l==[115,107,105,112]||l==[105,102]||l==[101,108,115,101]||l==[119,104,105,108,101]||l==[116,114,117,101]||l==[102,97,108,115,101]
def zl3(s:ByteArray)(w:World) :
  Calls Tryz.prog 179 #[.string s] w λe w'=>e=.returned (.bool (kwL s.toList))/\w'=w:=by
 go_enter Tryz.func179,Tryz.ntmps179;go_wp2
 all_goals first|(simp_all;done) | (go_ret;exact⟨by simp only[kwL, *];rfl,rfl⟩)
def zE1(c:UInt8)(w:World) :
  Calls Tryz.prog 109 #[.int .u8 c.toNat] w λe w'=>e=.returned (.bool (CC c))/\w'=w:=by
 go_enter Tryz.func109,Tryz.ntmps109;go_wp2
 all_goals (go_ret;refine⟨za4 ?_,rfl⟩;rw[dM,zi3];simp;omega)
def zh5(c:UInt8)(w:World) :
  Calls Tryz.prog 108 #[.int .u8 c.toNat] w λe w'=>e=.returned (.bool (DD c))/\w'=w:=by
 go_enter Tryz.func108,Tryz.ntmps108;go_wp2
 all_goals (go_ret;refine⟨za4 ?_,rfl⟩;rw[dM,zo8];simp;omega)
def CP(l:List UInt8):Bool := !l.isEmpty&&decide (l.length<=16) && !kwL l && !(CC (l.headD 0))&&l.all okc
def zh8(s:ByteArray)(k:Nat)(h:k<s.size):s.toList.drop k=s[k]::s.toList.drop (k+1):=by rw[ByteArray.toList_eq,aP (by simpa using h)];rfl
def zz4(s:ByteArray)(h:0<s.size):s.toList.headD 0=s[0]:=by have e:=zh8 s 0 h;rw[bB]at e;rw[e];rfl
def zl4(c:UInt8):okc c=true↔((97<=c.toNat/\c.toNat<=122)\/(65<=c.toNat/\c.toNat<=90)\/c.toNat=95)\/(48<=c.toNat/\c.toNat<=57):=by unfold okc;rw[cR,zo8,zi3]
def ym2(c:UInt8) :
  (okc c=true/\97<=(c.toNat:Int)/\((c.toNat:Int)<=122/\decide ((c.toNat:Int)<=122)=true)) \/
  (okc c=true/\(c.toNat:Int)<97/\65<=(c.toNat:Int)/\((c.toNat:Int)<=90/\decide ((c.toNat:Int)<=90)=true)) \/
  (okc c=true/\(c.toNat:Int)<97/\65<=(c.toNat:Int)/\(90<(c.toNat:Int)/\decide ((c.toNat:Int)<=90)=false)/\48<=(c.toNat:Int)/\(57<(c.toNat:Int)/\decide ((c.toNat:Int)<=57)=false)/\((c.toNat:Int)==95)=true) \/
  (okc c=true/\(c.toNat:Int)<97/\(c.toNat:Int)<65/\48<=(c.toNat:Int)/\((c.toNat:Int)<=57/\decide ((c.toNat:Int)<=57)=true)) \/
  (okc c=false/\97<=(c.toNat:Int)/\(122<(c.toNat:Int)/\decide ((c.toNat:Int)<=122)=false)/\65<=(c.toNat:Int)/\(90<(c.toNat:Int)/\decide ((c.toNat:Int)<=90)=false)/\48<=(c.toNat:Int)/\(57<(c.toNat:Int)/\decide ((c.toNat:Int)<=57)=false)/\((c.toNat:Int)==95)=false) \/
  (okc c=false/\(c.toNat:Int)<97/\65<=(c.toNat:Int)/\(90<(c.toNat:Int)/\decide ((c.toNat:Int)<=90)=false)/\48<=(c.toNat:Int)/\(57<(c.toNat:Int)/\decide ((c.toNat:Int)<=57)=false)/\((c.toNat:Int)==95)=false) \/
  (okc c=false/\(c.toNat:Int)<97/\(c.toNat:Int)<65/\48<=(c.toNat:Int)/\(57<(c.toNat:Int)/\decide ((c.toNat:Int)<=57)=false)/\((c.toNat:Int)==95)=false) \/
  (okc c=false/\(c.toNat:Int)<97/\(c.toNat:Int)<65/\(c.toNat:Int)<48/\((c.toNat:Int)==95)=false):=by
 by_cases a:97<=c.toNat
 ·by_cases b:c.toNat<=122
  ·exact Or.inl (⟨(zl4 c).2 oM,oM,⟨oM,dT_ oM⟩⟩)
  exact Or.inr (Or.inr (Or.inr (Or.inr (Or.inl (⟨Bool.eq_false_iff.2 (by rw[Ne,zl4];omega),oM,⟨oM,aN oM⟩,oM,⟨oM,aN oM⟩,oM,⟨oM,aN oM⟩,aF.2 oM⟩)))))
 by_cases b:65<=c.toNat
 ·by_cases d:c.toNat<=90
  ·exact Or.inr (Or.inl (⟨(zl4 c).2 oM,oM,oM,⟨oM,dT_ oM⟩⟩))
  by_cases e:c.toNat=95
  ·exact Or.inr (Or.inr (Or.inl (⟨(zl4 c).2 oM,oM,oM,⟨oM,dF_ oM⟩,oM,⟨oM,dF_ oM⟩,bZ.2 oM⟩)))
  exact Or.inr (Or.inr (Or.inr (Or.inr (Or.inr (Or.inl (⟨Bool.eq_false_iff.2 (by rw[Ne,zl4];omega),oM,oM,⟨oM,aN oM⟩,oM,⟨oM,aN oM⟩,aF.2 oM⟩))))))
 by_cases d:48<=c.toNat
 ·by_cases e:c.toNat<=57
  ·exact Or.inr (Or.inr (Or.inr (Or.inl (⟨(zl4 c).2 oM,oM,oM,oM,⟨oM,dT_ oM⟩⟩))))
  exact Or.inr (Or.inr (Or.inr (Or.inr (Or.inr (Or.inr (Or.inl (⟨Bool.eq_false_iff.2 (by rw[Ne,zl4];omega),oM,oM,oM,⟨oM,aN oM⟩,aF.2 oM⟩)))))))
 exact Or.inr (Or.inr (Or.inr (Or.inr (Or.inr (Or.inr (Or.inr (⟨Bool.eq_false_iff.2 (by rw[Ne,zl4];omega),oM,oM,oM,aF.2 oM⟩)))))))
def zT5(s:ByteArray)(w:World)(hs:s.size<=maxLen) :
  Calls Tryz.prog 170 #[.string s] w λe w'=>e=.returned (.bool (CP s.toList))/\w'=w:=by
 unfold maxLen at hs;have d:=zc2 s;by_cases he:s.size=0
 ·have X:s.toList=[]:=cX.1 oM
  have I:Hi (CP s.toList=false):=by unfold Hi;rw[X];rfl
  clear d;go_enter Tryz.func170,Tryz.ntmps170;go_wp2;go_ret;exact⟨za4 I.o.symm,rfl⟩
 have R:¬s.toList=[]:=by intro h;rw[h]at d;simp at d;omega
 have D:s.toList.isEmpty=false:=by simpa using R
 by_cases G:16<(s.size:Int)
 ·have I:Hi (CP s.toList=false):=by
   have h:decide (s.toList.length<=16)=false:=by simp[d];omega
   unfold Hi CP;rw[h];simp
  clear d;go_enter Tryz.func170,Tryz.ntmps170;go_wp2;go_ret;exact⟨za4 I.o.symm,rfl⟩
 have a1:(s.size:Int)<=16:=by omega
 clear G;cases Y:kwL s.toList
 case true =>
  have I:Hi (CP s.toList=false):=by unfold Hi CP;rw[Y];simp
  clear d;go_enter Tryz.func170,Tryz.ntmps170
  go_wp2_with (go_at_call 179;refine(zl3 _ _).mono ?_;rintro e w' ⟨rfl,rfl⟩)
  go_ret;exact⟨za4 I.o.symm,rfl⟩
 have X:0<s.size:=by omega
 cases J:CC s[0]
 case true =>
  have I:Hi (CP s.toList=false):=by unfold Hi CP;rw[zz4 s X,J];simp
  have G:=(zi3 _).1 J;have hd1:48<=(s[0].toNat:Int):=by omega
  have Z:(s[0].toNat:Int)<=57:=by omega
  clear d J G;go_enter Tryz.func170,Tryz.ntmps170
  go_wp2_with (go_at_call 179;refine(zl3 _ _).mono ?_;rintro e w' ⟨rfl,rfl⟩)
  go_ret;exact⟨za4 I.o.symm,rfl⟩
 have HN:Hi (CP s.toList=s.toList.all okc):=by
  have h:decide (s.toList.length<=16)=true:=by simp[d];omega
  unfold Hi CP;rw[zz4 s X,J,Y,D,h];simp
 have G:¬(48<=(s[0].toNat:Int)/\(s[0].toNat:Int)<=57):=by intro h;have:=(zi3 s[0]).2 oM;rw[J]at this;cases this
 clear J;have HL:Hi _:=d;clear d;have hd1:((48<=(s[0].toNat:Int))/\57<(s[0].toNat:Int))\/(s[0].toNat:Int)<48:=by omega
 clear G;go_enter Tryz.func170,Tryz.ntmps170;rcases hd1 with ⟨hd1,Z⟩ | hd1
 all_goals
  go_wp2_with (go_at_call 179;refine(zl3 _ _).mono ?_;rintro e w' ⟨rfl,rfl⟩)
  clear Y R D
  go_loop [28] (λi=>∃k:Nat,k<=s.size/\i=nI k/\Hi (s.toList.all okc=(s.toList.drop k).all okc)) (λi=>s.size-(intOf i).toNat)
  case atStart=>exact⟨0,dQ _,rfl,by unfold Hi;rw[bB]⟩
  obtain⟨k,Y,rfl,K⟩:=hrel;by_cases W:k<s.size
  ·rcases ym2 s[k] with ⟨d,J,⟨G,d2⟩⟩ | ⟨d,J,G,⟨L,d3⟩⟩ | ⟨d,J,G,⟨L,d3⟩,O,⟨b5,d5⟩,b6⟩ | ⟨d,J,G,L,⟨O,d4⟩⟩ | ⟨d,J,⟨G,d2⟩,L,⟨O,d4⟩,b5,⟨b6,d6⟩,b7⟩ | ⟨d,J,G,⟨L,d3⟩,O,⟨b5,d5⟩,b6⟩ | ⟨d,J,G,L,⟨O,d4⟩,b5⟩ | ⟨d,J,G,L,O⟩
   iterate 4
    ·have H:Hi (s.toList.all okc=(s.toList.drop (k+1)).all okc):=by
      unfold Hi;rw[K.o,zh8 s k W,eO,d,fU]
     clear d K;go_wp2
     go_round
     case rel=>exact⟨k+1,oM,by go_num,H⟩
     case measure=>simp[intOf];omega
   all_goals
    have H:Hi (CP s.toList=false):=by unfold Hi;rw[HN.o,K.o,zh8 s k W,eO,d];rfl
    clear d K;go_wp2;go_ret;exact⟨za4 H.o.symm,rfl⟩
  have H:Hi (CP s.toList=true):=by unfold Hi;rw[HN.o,K.o,aU (by rw[HL.o];omega)];rfl
  clear K;go_wp2;go_ret;exact⟨za4 H.o.symm,rfl⟩
def ym5{k:IntKind}{a b:Int}(h:a=b):Ending.returned (.int k a)=.returned (.int k b):=by rw[h]
def BK(k:Nat):Int:=[1,1,2,2,2,2,2,2,2,3,4,4,4,4,4,4].getD k 0
def wc2(k:Nat):Bool:=[true,true,true,true,true,false,false,false,false,false,false,false,true,true,false,false].getD k false
def wh6(k:Nat):Int:=[0,9223372036854775807,0,0,0,0,0,0,0,0,9223372036854775807,1,0,0,0,0].getD k 0
def wj0(k:Nat):Int:=[0,0,0,0,0,0,0,0,0,0,0,0,0,0,1,3].getD k 0
def wj1(k:Nat):Int:=[0,0,0,0,0,0,0,0,0,0,0,0,0,0,2,15].getD k 0
def rH0(k:Nat):Int:=[0,0,4,4,0,4,0,4,4,0,0,0,0,4,4,4].getD k 0
def rH1(k:Nat):Int:=[0,0,0,4,0,0,0,3,3,0,0,0,0,0,0,4].getD k 0
def rH2(k:Nat):Int:=[0,0,0,0,0,0,0,3,0,0,0,0,0,0,0,0].getD k 0
def FB(k:Nat):Int:=[0,0,1,2,0,1,0,2,2,0,0,0,0,1,1,2].getD k 0
structure BE(w:World):Prop where
 lt:5<w.heap.size
 sort:∀k:Nat,k<16->w.cell? ⟨5,k*9,none⟩=some (.int .u8 (BK k))
 named:∀k:Nat,k<16->w.cell? ⟨5,k*9+1,none⟩=some (.bool (wc2 k))
 most:∀k:Nat,k<16->w.cell? ⟨5,k*9+2,none⟩=some (nI (wh6 k))
 op0:∀k:Nat,k<16->w.cell? ⟨5,k*9+3,none⟩=some (nI (wj0 k))
 op1:∀k:Nat,k<16->w.cell? ⟨5,k*9+3+1,none⟩=some (nI (wj1 k))
 h0:∀k:Nat,k<16->w.cell? ⟨5,k*9+5,none⟩=some (.int .u8 (rH0 k))
 h1:∀k:Nat,k<16->w.cell? ⟨5,k*9+5+1,none⟩=some (.int .u8 (rH1 k))
 h2:∀k:Nat,k<16->w.cell? ⟨5,k*9+5+2,none⟩=some (.int .u8 (rH2 k))
 want:∀k:Nat,k<16->w.cell? ⟨5,k*9+8,none⟩=some (.int .u8 (FB k))
def DB(k h:Nat):Int:=if k=9 then 2 else if h=0 then rH0 k else if h=1 then rH1 k else if h=2 then rH2 k else 0
def ym6(k h:Nat)(D:k<16)(I:k=9\/h<=3)(w:World)(d:BE w) :
  Calls Tryz.prog 180 #[.agg #[nI k,nI h]] w λe w'=>e=.returned (.int .u8 (DB k h))/\Below w.heap.size w w':=by
 have X:=d.h0 k D;have W:=d.h1 k D;have R:=d.h2 k D;have K:=d.lt;have J:¬w.heap.size=5:=oM;have G:¬5=w.heap.size:=oM;clear d;by_cases d:k=9
 ·subst d
  clear I;go_enter Tryz.func180,Tryz.ntmps180;go_wp2;go_ret;exact⟨rfl,(Below.refl _ _).alloc (nR_ _) _⟩
 have L:((k:Int)==9)=false:=by rw[aF];omega
 have O:Hi (DB k h=if h=0 then rH0 k else if h=1 then rH1 k else if h=2 then rH2 k else 0):=by unfold Hi DB;rw[aC d]
 replace I:h<=3:=oM;clear d;go_enter Tryz.func180,Tryz.ntmps180;have d:h=0\/h=1\/h=2\/h=3:=oM;rcases d with rfl | rfl | rfl | rfl
 all_goals
  go_wp2;go_ret;exact⟨ym5 (by rw[O.o];rfl),(((Below.refl _ _).alloc (aK _) _).alloc (by simp) _)⟩
def wh1(k:Nat)(name:List UInt8)(num op:Int):Bool :=
 (if wc2 k then CP name else name.isEmpty)&&(decide (0<=num)&&decide (num<=wh6 k)&&decide (wj0 k<=op)&&decide (op<=wj1 k))
def yx3(d k num op a:Int)(s:ByteArray)(w:World)(hk:k<0\/15<k) :
  Calls Tryz.prog 155 #[.agg #[nI d,nI k,.string s,nI num,nI op,nI a]] w λe w'=>e=.returned (.bool false)/\Below w.heap.size w w':=by
 go_enter Tryz.func155,Tryz.ntmps155;rcases hk with hk | hk
 ·go_wp2
  go_ret;exact⟨rfl,(Below.refl _ _).alloc (nR_ _) _⟩
 have D:0<=k:=oM;have o:16<=k:=oM;go_wp2;go_ret;exact⟨rfl,(Below.refl _ _).alloc (nR_ _) _⟩
def yx4(d num op a:Int)(k:Nat)(s:ByteArray)(w:World)(G:k<16)(I:s.size<=maxLen)(D:BE w) :
  Calls Tryz.prog 155 #[.agg #[nI d,nI k,.string s,nI num,nI op,nI a]] w λe w'=>e=.returned (.bool (wh1 k s.toList num op))/\Below w.heap.size w w':=by
 have L:Hi _:=I;clear I;have c0:=D.h0 k G;have c1:=D.h1 k G;have X:=D.h2 k G;have R:=D.sort k G;have Z:=D.named k G;have c5:=D.most k G;have W:=D.op0 k G;have O:=D.op1 k G;have Y:=D.want k G;have K:=D.lt;have J:¬w.heap.size=5:=oM;have I:¬5=w.heap.size:=oM;clear D;go_enter Tryz.func155,Tryz.ntmps155;cases D:wc2 k
 ·go_wp2
  all_goals (go_ret;refine⟨za4 ?_,((Below.refl _ _).alloc (nR_ _) _).alloc sI _⟩)
  all_goals (clear c0 c1 X R Z c5 W O Y J I K L;first|(simp_all [wh1];done) | (simp_all [wh1];omega))
 go_wp2_with fail;refine mq (zT5 _ _ L.o) λw1 rfl=>?_;cases hm:CP s.toList
 all_goals
  go_wp2
  all_goals (go_ret;refine⟨za4 ?_,((Below.refl _ _).alloc (nR_ _) _).alloc sI _⟩)
  all_goals (clear c0 c1 X R Z c5 W O Y J I K L;first|(simp_all [wh1];done) | (simp_all [wh1];omega))
abbrev AW:=Nat×Nat
structure CR(w:World)(b:Nat)(st:List AW)(begun:Bool):Prop where
 lt:b<w.heap.size
 len:st.length<=25
 depth:w.cell? (aD b 50)=some (nI st.length)
 begun:w.cell? (aD b 51)=some (.bool begun)
 kind:∀(i:Nat) (h:i<st.length),w.cell? ⟨b,i*2,none⟩=some (nI st[i].1)
 held:∀(i:Nat) (h:i<st.length),w.cell? ⟨b,i*2+1,none⟩=some (nI st[i].2)
 room:∀i,i<52->∃v,w.cell? (aD b i)=some v
 warm:∀i,w.frozen? (aD b i)=false
def BE.below{w w1:World}(h:BE w)(D:Below w.heap.size w w1):BE w1:=by
 have G:∀o,w1.cell? ⟨5,o,none⟩=w.cell? ⟨5,o,none⟩:=λo=>D.cell (p:=⟨5,o,none⟩) h.lt;have I:=D.size;have:=h.lt;constructor
 case lt=>omega
 all_goals (intro k d;rw[G])
 ·exact h.sort k d
 ·exact h.named k d
 ·exact h.most k d
 ·exact h.op0 k d
 ·exact h.op1 k d
 ·exact h.h0 k d
 ·exact h.h1 k d
 ·exact h.h2 k d
 exact h.want k d
def CR.below{w w1:World}{b:Nat}{I:List AW}{g:Bool}(h:CR w b I g)(G:Below w.heap.size w w1):CR w1 b I g:=by have d:∀o,w1.cell? (aD b o)=w.cell? (aD b o):=λo=>G.cell (p:=⟨b,o,none⟩) h.lt;have J:∀o,w1.frozen? (aD b o)=w.frozen? (aD b o):=λo=>G.frozen (p:=⟨b,o,none⟩) h.lt;have K:=G.size;have:=h.lt;exact⟨oM,h.len,by rw[d];exact h.depth,by rw[d];exact h.begun,λi D=>by rw[d];exact h.kind i D,λi D=>by rw[d];exact h.held i D,λi D=>by rw[d];exact h.room i D,λi=>by rw[J];exact h.warm i⟩
def CS(st:List AW):Bool:=st.any λh=>decide ((h.2:Int)<FB h.1)
def ym7(k:Nat):0<=FB k/\FB k<=2:=by
 by_cases h:k<16
 ·have:∀j:Fin 16,0<=FB j/\FB j<=2:=by decide
  exact this ⟨k,h⟩
 have:FB k=0:=by unfold FB;rw[bT,aS (by simp;omega)];rfl
 omega
def zj3(b n:Nat)(d:List AW)(g:Bool)(w:World)(hn:n<=d.length)(a4:n<25)(X:∀h∈d,h.1<16)(G:BE w)(D:CR w b d g) :
  Calls Tryz.prog 157 #[pA b 0,nI n] w λe w'=>e=.returned (.bool (CS (d.drop n)))/\Below w.heap.size w w':=by
 have I:=D.depth;have hl:=D.len;have a5:=D.lt;have h1:(d.length:Int)<=25:=oM;have h2:(n:Int)<=d.length:=oM;have a7:¬25=n:=oM;have HK:Hi _:=X;have HR:Hi _:=G;have HP:Hi _:=D;clear X G D;go_enter Tryz.func157,Tryz.ntmps157;go_wp2;go_quiet (fail);go_wp2;clear I;go_loopw [17] (λt wr=>∃k:Nat,n+k<=d.length/\t=nI k/\Hi (CS (d.drop n)=CS (d.drop (n+k)))/\Below w.heap.size w wr) (λt _=>d.length-n-(intOf t).toNat)
 case atStart=>exact⟨0,oM,rfl,rfl,below_drewN (Below.refl _ _) _⟩
 obtain⟨k,X,rfl,W,L⟩:=hrel;by_cases D:n+k<d.length
 ·have hj:k<d.length-n:=oM
  have Y:=L.size;have K:=HP.o.below L;have J:=HR.o.below L;have c1:=K.kind (n+k) D;have c2:=K.held (n+k) D;have I:d[n+k]∈d:=cB _;have R:=HK.o _ I;have c3:=J.want _ R;have a2:=ym7 d[n+k].1;have Z:=J.lt
  have G:CS (d.drop (n+k))=(decide ((d[n+k].2:Int)<FB d[n+k].1)||CS (d.drop (n+(k+1)))):=by rw[aP D];rfl
  have O:Hi _:=G;clear G I K J;generalize d[n+k].1=kd at *;generalize d[n+k].2=J at *;rw[fJ]at c1 c2;have a3:¬wr.heap.size=5:=oM;have a1:¬5=wr.heap.size:=oM;have K:¬b=wr.heap.size:=oM;have HB:=hid L;clear L;by_cases I:(J:Int)<FB kd
  ·have G:Hi (CS (d.drop n)=true):=by
    unfold Hi;rw[W.o,O.o,aV I];rfl
   go_wp2;go_quiet (fail);go_wp2;go_ret;exact⟨za4 G.o.symm,below_drewN (Below.alloc HB.o Y _) _⟩
  have G:Hi (CS (d.drop n)=CS (d.drop (n+(k+1)))):=by unfold Hi;rw[W.o,O.o,aN I];rfl
  have a6:FB kd<=(J:Int):=oM;clear I;go_wp2;go_quiet (fail);go_wp2;go_roundw
  case rel=>exact⟨k+1,oM,by go_num,G,below_drewN (Below.alloc HB.o Y _) _⟩
  case measure=>simp[intOf];omega
 have I:n+k=d.length:=oM;have hj:¬k<d.length-n:=oM
 have G:Hi (CS (d.drop n)=false):=by unfold Hi;rw[W.o,I,List.drop_length];rfl
 have J:d.length-n<=k:=oM;clear I;go_wp2;go_ret;exact⟨za4 G.o.symm,L⟩
def DA(st:List AW)(g:Bool)(n:Nat)(s:Int):Bool :=
 if n=0 then (s==2||(s==1 && !g)) else DB (st.getD (n-1) (0,0)).1 (st.getD (n-1) (0,0)).2==s
def zs6(b n:Nat)(s:Int)(d:List AW)(g:Bool)(w:World)(Y:n<=d.length)(a1:n<=25)(W:∀h∈d,h.1<16/\(h.1=9\/h.2<=3))(R:BE w)(D:CR w b d g) :
  Calls Tryz.prog 171 #[pA b 0,nI n,.int .u8 s] w λe w'=>e=.returned (.bool (DA d g n s))/\Below w.heap.size w w':=by
 by_cases I:n=0
 ·subst I
  have X:=D.begun;have L:=D.lt;clear W R D Y;go_enter Tryz.func171,Tryz.ntmps171;cases g
  all_goals
   go_wp2
   all_goals (go_ret;refine⟨za4 ?_,Below.refl _ _⟩;simp_all [DA])
 have hl:=D.len;have L:=D.lt;have J:n-1<d.length:=oM;have X:=D.kind (n-1) J;have Z:=D.held (n-1) J;have G:d[n-1]∈d:=cB _;obtain⟨K,O⟩:=W _ G
 have HT:Hi (DA d g n s=(DB d[n-1].1 d[n-1].2==s)):=by unfold Hi DA;rw[aC I,bT,aJ J];rfl
 have HR:Hi _:=R;clear W R D G;generalize d[n-1].1=kd at *;generalize d[n-1].2=hd at *;have G:0<(n:Int):=oM;obtain⟨m,rfl⟩:∃m,n=m+1:=⟨n-1,oM⟩;simp only[dA]at X Z;clear I;go_enter Tryz.func171,Tryz.ntmps171;go_wp2_with fail;refine mq (ym6 _ _ K O _ HR.o) λI D=>?_;go_wp2;go_ret;exact⟨za4 HT.o.symm,D⟩
end Go.Proofs.YthoegkcpmgalbaaGreatDoor
