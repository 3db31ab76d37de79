import Derived.Test.YtpongdpnbclchaaGreatDoorKLk
set_option maxHeartbeats 8000000
set_option linter.all false
namespace Go.Proofs.YtpongdpnbclchaaGreatDoor
section
open Go.RowKit
def kwL(l:List UInt8):Bool:=l==[118,97,114]||l==[97,114,114,97,121]||l==[105,110,112,117,116]||l==[97,115,115,101,114,116]||l==[115,107,105,112]||l==[105,102]||l==[101,108,115,101]||l==[119,104,105,108,101]||l==[116,114,117,101]||l==[102,97,108,115,101]
theorem zl3(s:ByteArray)(w:World) :
  Calls Tryz.prog 157 #[.string s] w λe w'=>e=.returned (.bool (kwL s.toList))/\w'=w:=by
 go_enter Tryz.func157,Tryz.ntmps157;go_wp2
 all_goals first|(simp_all;done) | (go_ret;exact⟨by simp only[kwL, *];rfl,rfl⟩)
theorem zE1(c:UInt8)(w:World) :
  Calls Tryz.prog 103 #[.int .u8 c.toNat] w λe w'=>e=.returned (.bool (BX c))/\w'=w:=by
 go_enter Tryz.func103,Tryz.ntmps103;go_wp2
 all_goals (go_ret;refine⟨za4 ?_,rfl⟩;rw[Bool.eq_iff_iff,zi3];simp;omega)
theorem zh5(c:UInt8)(w:World) :
  Calls Tryz.prog 102 #[.int .u8 c.toNat] w λe w'=>e=.returned (.bool (DA c))/\w'=w:=by
 go_enter Tryz.func102,Tryz.ntmps102;go_wp2
 all_goals (go_ret;refine⟨za4 ?_,rfl⟩;rw[Bool.eq_iff_iff,zo8];simp;omega)
def CL(l:List UInt8):Bool := !l.isEmpty&&decide (l.length<=16) && !kwL l && !(BX (l.headD 0))&&l.all okc
theorem zh8(s:ByteArray)(k:Nat)(h:k<s.size):s.toList.drop k=s[k]::s.toList.drop (k+1):=by rw[ByteArray.toList_eq,List.drop_eq_getElem_cons (by simpa using h)];rfl
theorem zz4(s:ByteArray)(h:0<s.size):s.toList.headD 0=s[0]:=by have e:=zh8 s 0 h;rw[List.drop_zero]at e;rw[e];rfl
theorem zl4(c:UInt8):okc c=true↔((97<=c.toNat/\c.toNat<=122)\/(65<=c.toNat/\c.toNat<=90)\/c.toNat=95)\/(48<=c.toNat/\c.toNat<=57):=by unfold okc;rw[Bool.or_eq_true,zo8,zi3]
theorem ym2(c:UInt8) :
  (okc c=true/\97<=(c.toNat:Int)/\((c.toNat:Int)<=122/\decide ((c.toNat:Int)<=122)=true)) \/
  (okc c=true/\(c.toNat:Int)<97/\65<=(c.toNat:Int)/\((c.toNat:Int)<=90/\decide ((c.toNat:Int)<=90)=true)) \/
  (okc c=true/\(c.toNat:Int)<97/\65<=(c.toNat:Int)/\(90<(c.toNat:Int)/\decide ((c.toNat:Int)<=90)=false)/\48<=(c.toNat:Int)/\(57<(c.toNat:Int)/\decide ((c.toNat:Int)<=57)=false)/\((c.toNat:Int)==95)=true) \/
  (okc c=true/\(c.toNat:Int)<97/\(c.toNat:Int)<65/\48<=(c.toNat:Int)/\((c.toNat:Int)<=57/\decide ((c.toNat:Int)<=57)=true)) \/
  (okc c=false/\97<=(c.toNat:Int)/\(122<(c.toNat:Int)/\decide ((c.toNat:Int)<=122)=false)/\65<=(c.toNat:Int)/\(90<(c.toNat:Int)/\decide ((c.toNat:Int)<=90)=false)/\48<=(c.toNat:Int)/\(57<(c.toNat:Int)/\decide ((c.toNat:Int)<=57)=false)/\((c.toNat:Int)==95)=false) \/
  (okc c=false/\(c.toNat:Int)<97/\65<=(c.toNat:Int)/\(90<(c.toNat:Int)/\decide ((c.toNat:Int)<=90)=false)/\48<=(c.toNat:Int)/\(57<(c.toNat:Int)/\decide ((c.toNat:Int)<=57)=false)/\((c.toNat:Int)==95)=false) \/
  (okc c=false/\(c.toNat:Int)<97/\(c.toNat:Int)<65/\48<=(c.toNat:Int)/\(57<(c.toNat:Int)/\decide ((c.toNat:Int)<=57)=false)/\((c.toNat:Int)==95)=false) \/
  (okc c=false/\(c.toNat:Int)<97/\(c.toNat:Int)<65/\(c.toNat:Int)<48/\((c.toNat:Int)==95)=false):=by
 by_cases a:97<=c.toNat
 ·by_cases b:c.toNat<=122
  ·exact Or.inl (⟨(zl4 c).2 oM,by omega,⟨by omega,dT_ oM⟩⟩)
  exact Or.inr (Or.inr (Or.inr (Or.inr (Or.inl (⟨Bool.eq_false_iff.2 (by rw[Ne,zl4];omega),by omega,⟨by omega,decide_eq_false (by omega)⟩,by omega,⟨by omega,decide_eq_false (by omega)⟩,by omega,⟨by omega,decide_eq_false (by omega)⟩,beq_eq_false_iff_ne.2 (by omega)⟩)))))
 by_cases b:65<=c.toNat
 ·by_cases d:c.toNat<=90
  ·exact Or.inr (Or.inl (⟨(zl4 c).2 oM,by omega,by omega,⟨by omega,dT_ oM⟩⟩))
  by_cases e:c.toNat=95
  ·exact Or.inr (Or.inr (Or.inl (⟨(zl4 c).2 oM,by omega,by omega,⟨by omega,dF_ oM⟩,by omega,⟨by omega,dF_ oM⟩,beq_iff_eq.2 oM⟩)))
  exact Or.inr (Or.inr (Or.inr (Or.inr (Or.inr (Or.inl (⟨Bool.eq_false_iff.2 (by rw[Ne,zl4];omega),by omega,by omega,⟨by omega,decide_eq_false (by omega)⟩,by omega,⟨by omega,decide_eq_false (by omega)⟩,beq_eq_false_iff_ne.2 (by omega)⟩))))))
 by_cases d:48<=c.toNat
 ·by_cases e:c.toNat<=57
  ·exact Or.inr (Or.inr (Or.inr (Or.inl (⟨(zl4 c).2 oM,by omega,by omega,by omega,⟨by omega,dT_ oM⟩⟩))))
  exact Or.inr (Or.inr (Or.inr (Or.inr (Or.inr (Or.inr (Or.inl (⟨Bool.eq_false_iff.2 (by rw[Ne,zl4];omega),by omega,by omega,by omega,⟨by omega,decide_eq_false (by omega)⟩,beq_eq_false_iff_ne.2 (by omega)⟩)))))))
 exact Or.inr (Or.inr (Or.inr (Or.inr (Or.inr (Or.inr (Or.inr (⟨Bool.eq_false_iff.2 (by rw[Ne,zl4];omega),by omega,by omega,by omega,beq_eq_false_iff_ne.2 (by omega)⟩)))))))
theorem zT5(s:ByteArray)(w:World)(hs:s.size<=maxLen) :
  Calls Tryz.prog 150 #[.string s] w λe w'=>e=.returned (.bool (CL s.toList))/\w'=w:=by
 unfold maxLen at hs;have hl:=zc2 s;by_cases he:s.size=0
 ·have h0:s.toList=[]:=List.length_eq_zero_iff.1 oM
  have HF:Hi (CL s.toList=false):=by unfold Hi;rw[h0];rfl
  clear hl;go_enter Tryz.func150,Tryz.ntmps150;go_wp2;go_ret;exact⟨za4 HF.o.symm,rfl⟩
 have hne:¬s.toList=[]:=by intro h;rw[h]at hl;simp at hl;omega
 have hne2:s.toList.isEmpty=false:=by simpa using hne
 by_cases h16:16<(s.size:Int)
 ·have HF:Hi (CL s.toList=false):=by
   have h:decide (s.toList.length<=16)=false:=by simp[hl];omega
   unfold Hi CL;rw[h];simp
  clear hl;go_enter Tryz.func150,Tryz.ntmps150;go_wp2;go_ret;exact⟨za4 HF.o.symm,rfl⟩
 have h16':(s.size:Int)<=16:=by omega
 clear h16;cases hk:kwL s.toList
 case true =>
  have HF:Hi (CL s.toList=false):=by unfold Hi CL;rw[hk];simp
  clear hl;go_enter Tryz.func150,Tryz.ntmps150
  go_wp2_with (go_at_call 157;refine(zl3 _ _).mono ?_;rintro e w' ⟨rfl,rfl⟩)
  go_ret;exact⟨za4 HF.o.symm,rfl⟩
 have h0:0<s.size:=by omega
 cases hd:BX s[0]
 case true =>
  have HF:Hi (CL s.toList=false):=by unfold Hi CL;rw[zz4 s h0,hd];simp
  have hd':=(zi3 _).1 hd;have hd1:48<=(s[0].toNat:Int):=by omega
  have hd2:(s[0].toNat:Int)<=57:=by omega
  clear hl hd hd';go_enter Tryz.func150,Tryz.ntmps150
  go_wp2_with (go_at_call 157;refine(zl3 _ _).mono ?_;rintro e w' ⟨rfl,rfl⟩)
  go_ret;exact⟨za4 HF.o.symm,rfl⟩
 have HN:Hi (CL s.toList=s.toList.all okc):=by
  have h:decide (s.toList.length<=16)=true:=by simp[hl];omega
  unfold Hi CL;rw[zz4 s h0,hd,hk,hne2,h];simp
 have hd':¬(48<=(s[0].toNat:Int)/\(s[0].toNat:Int)<=57):=by intro h;have:=(zi3 s[0]).2 oM;rw[hd]at this;cases this
 clear hd;have HL:Hi _:=hl;clear hl;have hd1:((48<=(s[0].toNat:Int))/\57<(s[0].toNat:Int))\/(s[0].toNat:Int)<48:=by omega
 clear hd';go_enter Tryz.func150,Tryz.ntmps150;rcases hd1 with ⟨hd1,hd2⟩ | hd1
 all_goals
  go_wp2_with (go_at_call 157;refine(zl3 _ _).mono ?_;rintro e w' ⟨rfl,rfl⟩)
  clear hk hne hne2
  go_loop [28] (λi=>∃k:Nat,k<=s.size/\i=nI k/\Hi (s.toList.all okc=(s.toList.drop k).all okc)) (λi=>s.size-(intOf i).toNat)
  case atStart=>exact⟨0,Nat.zero_le _,rfl,by unfold Hi;rw[List.drop_zero]⟩
  obtain⟨k,hk,rfl,hr⟩:=hrel;by_cases hlt:k<s.size
  ·rcases ym2 s[k] with ⟨ho,b1,⟨b2,d2⟩⟩ | ⟨ho,b1,b2,⟨b3,d3⟩⟩ | ⟨ho,b1,b2,⟨b3,d3⟩,b4,⟨b5,d5⟩,b6⟩ | ⟨ho,b1,b2,b3,⟨b4,d4⟩⟩ | ⟨ho,b1,⟨b2,d2⟩,b3,⟨b4,d4⟩,b5,⟨b6,d6⟩,b7⟩ | ⟨ho,b1,b2,⟨b3,d3⟩,b4,⟨b5,d5⟩,b6⟩ | ⟨ho,b1,b2,b3,⟨b4,d4⟩,b5⟩ | ⟨ho,b1,b2,b3,b4⟩
   iterate 4
    ·have H:Hi (s.toList.all okc=(s.toList.drop (k+1)).all okc):=by
      unfold Hi;rw[hr.o,zh8 s k hlt,List.all_cons,ho,Bool.true_and]
     clear ho hr;go_wp2
     go_round
     case rel=>exact⟨k+1,by omega,by go_num,H⟩
     case measure=>simp[intOf];omega
   all_goals
    have H:Hi (CL s.toList=false):=by unfold Hi;rw[HN.o,hr.o,zh8 s k hlt,List.all_cons,ho];rfl
    clear ho hr;go_wp2;go_ret;exact⟨za4 H.o.symm,rfl⟩
  have H:Hi (CL s.toList=true):=by unfold Hi;rw[HN.o,hr.o,List.drop_of_length_le (by rw[HL.o];omega)];rfl
  clear hr;go_wp2;go_ret;exact⟨za4 H.o.symm,rfl⟩
end
section
open Go.RowKit
theorem ym5{k:IntKind}{a b:Int}(h:a=b):Ending.returned (.int k a)=.returned (.int k b):=by rw[h]
def AO(k:Nat):Int:=[1,1,2,2,2,2,2,2,2,3,4,4,4,4,4,4].getD k 0
def wc1(k:Nat):Bool:=[true,true,true,true,true,false,false,false,false,false,false,false,true,true,false,false].getD k false
def wh8(k:Nat):Int:=[0,9223372036854775807,0,0,0,0,0,0,0,0,9223372036854775807,1,0,0,0,0].getD k 0
def wj0(k:Nat):Int:=[0,0,0,0,0,0,0,0,0,0,0,0,0,0,1,3].getD k 0
def wj1(k:Nat):Int:=[0,0,0,0,0,0,0,0,0,0,0,0,0,0,2,15].getD k 0
def rH0(k:Nat):Int:=[0,0,4,4,0,4,0,4,4,0,0,0,0,4,4,4].getD k 0
def rH1(k:Nat):Int:=[0,0,0,4,0,0,0,3,3,0,0,0,0,0,0,4].getD k 0
def rH2(k:Nat):Int:=[0,0,0,0,0,0,0,3,0,0,0,0,0,0,0,0].getD k 0
def DT(k:Nat):Int:=[0,0,1,2,0,1,0,2,2,0,0,0,0,1,1,2].getD k 0
structure BF(w:World):Prop where
 lt:4<w.heap.size
 sort:∀k:Nat,k<16->w.cell? ⟨4,k*9,none⟩=some (.int .u8 (AO k))
 named:∀k:Nat,k<16->w.cell? ⟨4,k*9+1,none⟩=some (.bool (wc1 k))
 most:∀k:Nat,k<16->w.cell? ⟨4,k*9+2,none⟩=some (nI (wh8 k))
 op0:∀k:Nat,k<16->w.cell? ⟨4,k*9+3,none⟩=some (nI (wj0 k))
 op1:∀k:Nat,k<16->w.cell? ⟨4,k*9+3+1,none⟩=some (nI (wj1 k))
 h0:∀k:Nat,k<16->w.cell? ⟨4,k*9+5,none⟩=some (.int .u8 (rH0 k))
 h1:∀k:Nat,k<16->w.cell? ⟨4,k*9+5+1,none⟩=some (.int .u8 (rH1 k))
 h2:∀k:Nat,k<16->w.cell? ⟨4,k*9+5+2,none⟩=some (.int .u8 (rH2 k))
 want:∀k:Nat,k<16->w.cell? ⟨4,k*9+8,none⟩=some (.int .u8 (DT k))
def BQ(k h:Nat):Int:=if k=9 then 2 else if h=0 then rH0 k else if h=1 then rH1 k else if h=2 then rH2 k else 0
theorem ym6(k h:Nat)(hk:k<16)(hh:k=9\/h<=3)(w:World)(hR:BF w) :
  Calls Tryz.prog 158 #[.agg #[nI k,nI h]] w λe w'=>e=.returned (.int .u8 (BQ k h))/\Below w.heap.size w w':=by
 have c0:=hR.h0 k hk;have c1:=hR.h1 k hk;have c2:=hR.h2 k hk;have hlt:=hR.lt;have hne:¬w.heap.size=4:=oM;have hne2:¬4=w.heap.size:=oM;clear hR;by_cases h9:k=9
 ·subst h9
  clear hh;go_enter Tryz.func158,Tryz.ntmps158;go_wp2;go_ret;exact⟨rfl,(Below.refl _ _).alloc (nR_ _) _⟩
 have h9':((k:Int)==9)=false:=by rw[beq_eq_false_iff_ne];omega
 have HN:Hi (BQ k h=if h=0 then rH0 k else if h=1 then rH1 k else if h=2 then rH2 k else 0):=by unfold Hi BQ;rw[if_neg h9]
 replace hh:h<=3:=oM;clear h9;go_enter Tryz.func158,Tryz.ntmps158;have h4:h=0\/h=1\/h=2\/h=3:=oM;rcases h4 with rfl | rfl | rfl | rfl
 all_goals
  go_wp2;go_ret;exact⟨ym5 (by rw[HN.o];rfl),(((Below.refl _ _).alloc (Nat.le_refl _) _).alloc (by simp) _)⟩
def wh4(k:Nat)(name:List UInt8)(num op:Int):Bool :=
 (if wc1 k then CL name else name.isEmpty)&&(decide (0<=num)&&decide (num<=wh8 k)&&decide (wj0 k<=op)&&decide (op<=wj1 k))
theorem yx3(d k num op a:Int)(s:ByteArray)(w:World)(hk:k<0\/15<k) :
  Calls Tryz.prog 140 #[.agg #[nI d,nI k,.string s,nI num,nI op,nI a]] w λe w'=>e=.returned (.bool false)/\Below w.heap.size w w':=by
 go_enter Tryz.func140,Tryz.ntmps140;rcases hk with hk | hk
 ·go_wp2
  go_ret;exact⟨rfl,(Below.refl _ _).alloc (nR_ _) _⟩
 have h0:0<=k:=oM;have h16:16<=k:=oM;go_wp2;go_ret;exact⟨rfl,(Below.refl _ _).alloc (nR_ _) _⟩
theorem yx4(d num op a:Int)(k:Nat)(s:ByteArray)(w:World)(hk:k<16)(hs:s.size<=maxLen)(hR:BF w) :
  Calls Tryz.prog 140 #[.agg #[nI d,nI k,.string s,nI num,nI op,nI a]] w λe w'=>e=.returned (.bool (wh4 k s.toList num op))/\Below w.heap.size w w':=by
 have HS:Hi _:=hs;clear hs;have c0:=hR.h0 k hk;have c1:=hR.h1 k hk;have c2:=hR.h2 k hk;have c3:=hR.sort k hk;have c4:=hR.named k hk;have c5:=hR.most k hk;have c6:=hR.op0 k hk;have c7:=hR.op1 k hk;have c8:=hR.want k hk;have hlt:=hR.lt;have hne:¬w.heap.size=4:=oM;have hne2:¬4=w.heap.size:=oM;clear hR;go_enter Tryz.func140,Tryz.ntmps140;cases hn:wc1 k
 ·go_wp2
  all_goals (go_ret;refine⟨za4 ?_,((Below.refl _ _).alloc (nR_ _) _).alloc sI _⟩)
  all_goals (clear c0 c1 c2 c3 c4 c5 c6 c7 c8 hne hne2 hlt HS;first|(simp_all [wh4];done) | (simp_all [wh4];omega))
 go_wp2_with fail;refine mq (zT5 _ _ HS.o) λw1 rfl=>?_;cases hm:CL s.toList
 all_goals
  go_wp2
  all_goals (go_ret;refine⟨za4 ?_,((Below.refl _ _).alloc (nR_ _) _).alloc sI _⟩)
  all_goals (clear c0 c1 c2 c3 c4 c5 c6 c7 c8 hne hne2 hlt HS;first|(simp_all [wh4];done) | (simp_all [wh4];omega))
end
section
open Go.RowKit
abbrev AW:=Nat×Nat
structure CN(w:World)(b:Nat)(st:List AW)(begun:Bool):Prop where
 lt:b<w.heap.size
 len:st.length<=25
 depth:w.cell? (aD b 50)=some (nI st.length)
 begun:w.cell? (aD b 51)=some (.bool begun)
 kind:∀(i:Nat) (h:i<st.length),w.cell? ⟨b,i*2,none⟩=some (nI st[i].1)
 held:∀(i:Nat) (h:i<st.length),w.cell? ⟨b,i*2+1,none⟩=some (nI st[i].2)
 room:∀i,i<52->∃v,w.cell? (aD b i)=some v
 warm:∀i,w.frozen? (aD b i)=false
theorem BF.below{w w1:World}(h:BF w)(hb:Below w.heap.size w w1):BF w1:=by
 have hc:∀o,w1.cell? ⟨4,o,none⟩=w.cell? ⟨4,o,none⟩:=λo=>hb.cell (p:=⟨4,o,none⟩) h.lt;have hz:=hb.size;have:=h.lt;constructor
 case lt=>omega
 all_goals (intro k hk;rw[hc])
 ·exact h.sort k hk
 ·exact h.named k hk
 ·exact h.most k hk
 ·exact h.op0 k hk
 ·exact h.op1 k hk
 ·exact h.h0 k hk
 ·exact h.h1 k hk
 ·exact h.h2 k hk
 exact h.want k hk
theorem CN.below{w w1:World}{b:Nat}{st:List AW}{g:Bool}(h:CN w b st g)(hb:Below w.heap.size w w1):CN w1 b st g:=by have hc:∀o,w1.cell? (aD b o)=w.cell? (aD b o):=λo=>hb.cell (p:=⟨b,o,none⟩) h.lt;have hf:∀o,w1.frozen? (aD b o)=w.frozen? (aD b o):=λo=>hb.frozen (p:=⟨b,o,none⟩) h.lt;have hz:=hb.size;have:=h.lt;exact⟨by omega,h.len,by rw[hc];exact h.depth,by rw[hc];exact h.begun,λi hi=>by rw[hc];exact h.kind i hi,λi hi=>by rw[hc];exact h.held i hi,λi hi=>by rw[hc];exact h.room i hi,λi=>by rw[hf];exact h.warm i⟩
def CA(st:List AW):Bool:=st.any λh=>decide ((h.2:Int)<DT h.1)
theorem ym7(k:Nat):0<=DT k/\DT k<=2:=by
 by_cases h:k<16
 ·have:∀j:Fin 16,0<=DT j/\DT j<=2:=by decide
  exact this ⟨k,h⟩
 have:DT k=0:=by unfold DT;rw[List.getD_eq_getElem?_getD,List.getElem?_eq_none (by simp;omega)];rfl
 omega
theorem zj3(b n:Nat)(st:List AW)(g:Bool)(w:World)(hn:n<=st.length)(hn2:n<25)(hk:∀h∈st,h.1<16)(hR:BF w)(hP:CN w b st g) :
  Calls Tryz.prog 142 #[pA b 0,nI n] w λe w'=>e=.returned (.bool (CA (st.drop n)))/\Below w.heap.size w w':=by
 have c0:=hP.depth;have hl:=hP.len;have hlt:=hP.lt;have h1:(st.length:Int)<=25:=oM;have h2:(n:Int)<=st.length:=oM;have h25:¬25=n:=oM;have HK:Hi _:=hk;have HR:Hi _:=hR;have HP:Hi _:=hP;clear hk hR hP;go_enter Tryz.func142,Tryz.ntmps142;go_wp2;go_quiet (fail);go_wp2;clear c0;go_loopw [17] (λt wr=>∃k:Nat,n+k<=st.length/\t=nI k/\Hi (CA (st.drop n)=CA (st.drop (n+k)))/\Below w.heap.size w wr) (λt _=>st.length-n-(intOf t).toNat)
 case atStart=>exact⟨0,by omega,rfl,rfl,below_drewN (Below.refl _ _) _⟩
 obtain⟨k,hk,rfl,hr,hb⟩:=hrel;by_cases hlt2:n+k<st.length
 ·have hj:k<st.length-n:=oM
  have hz:=hb.size;have HP2:=HP.o.below hb;have HR2:=HR.o.below hb;have c1:=HP2.kind (n+k) hlt2;have c2:=HP2.held (n+k) hlt2;have hmem:st[n+k]∈st:=List.getElem_mem _;have hk16:=HK.o _ hmem;have c3:=HR2.want _ hk16;have hbd:=ym7 st[n+k].1;have hlt3:=HR2.lt
  have hstep:CA (st.drop (n+k))=(decide ((st[n+k].2:Int)<DT st[n+k].1)||CA (st.drop (n+(k+1)))):=by rw[List.drop_eq_getElem_cons hlt2];rfl
  have HST:Hi _:=hstep;clear hstep hmem HP2 HR2;generalize st[n+k].1=kd at *;generalize st[n+k].2=hd at *;rw[Nat.add_mul]at c1 c2;have hne:¬wr.heap.size=4:=oM;have hne2:¬4=wr.heap.size:=oM;have hneb:¬b=wr.heap.size:=oM;have HB:=hid hb;clear hb;by_cases ht:(hd:Int)<DT kd
  ·have HF:Hi (CA (st.drop n)=true):=by
    unfold Hi;rw[hr.o,HST.o,decide_eq_true ht];rfl
   go_wp2;go_quiet (fail);go_wp2;go_ret;exact⟨za4 HF.o.symm,below_drewN (Below.alloc HB.o hz _) _⟩
  have HF:Hi (CA (st.drop n)=CA (st.drop (n+(k+1)))):=by unfold Hi;rw[hr.o,HST.o,decide_eq_false ht];rfl
  have ht2:DT kd<=(hd:Int):=oM;clear ht;go_wp2;go_quiet (fail);go_wp2;go_roundw
  case rel=>exact⟨k+1,by omega,by go_num,HF,below_drewN (Below.alloc HB.o hz _) _⟩
  case measure=>simp[intOf];omega
 have ek:n+k=st.length:=oM;have hj:¬k<st.length-n:=oM
 have HF:Hi (CA (st.drop n)=false):=by unfold Hi;rw[hr.o,ek,List.drop_length];rfl
 have hj2:st.length-n<=k:=oM;clear ek;go_wp2;go_ret;exact⟨za4 HF.o.symm,hb⟩
def CR(st:List AW)(g:Bool)(n:Nat)(s:Int):Bool :=
 if n=0 then (s==2||(s==1 && !g)) else BQ (st.getD (n-1) (0,0)).1 (st.getD (n-1) (0,0)).2==s
theorem zs6(b n:Nat)(s:Int)(st:List AW)(g:Bool)(w:World)(hn:n<=st.length)(hn2:n<=25)(hk:∀h∈st,h.1<16/\(h.1=9\/h.2<=3))(hR:BF w)(hP:CN w b st g) :
  Calls Tryz.prog 151 #[pA b 0,nI n,.int .u8 s] w λe w'=>e=.returned (.bool (CR st g n s))/\Below w.heap.size w w':=by
 by_cases h0:n=0
 ·subst h0
  have c1:=hP.begun;have hlt:=hP.lt;clear hk hR hP hn;go_enter Tryz.func151,Tryz.ntmps151;cases g
  all_goals
   go_wp2
   all_goals (go_ret;refine⟨za4 ?_,Below.refl _ _⟩;simp_all [CR])
 have hl:=hP.len;have hlt:=hP.lt;have hi:n-1<st.length:=oM;have c1:=hP.kind (n-1) hi;have c2:=hP.held (n-1) hi;have hmem:st[n-1]∈st:=List.getElem_mem _;obtain⟨hk1,hk2⟩:=hk _ hmem
 have HT:Hi (CR st g n s=(BQ st[n-1].1 st[n-1].2==s)):=by unfold Hi CR;rw[if_neg h0,List.getD_eq_getElem?_getD,List.getElem?_eq_getElem hi];rfl
 have HR:Hi _:=hR;clear hk hR hP hmem;generalize st[n-1].1=kd at *;generalize st[n-1].2=hd at *;have hn0:0<(n:Int):=oM;obtain⟨m,rfl⟩:∃m,n=m+1:=⟨n-1,by omega⟩;simp only[Nat.add_sub_cancel]at c1 c2;clear h0;go_enter Tryz.func151,Tryz.ntmps151;go_wp2_with fail;refine mq (ym6 _ _ hk1 hk2 _ HR.o) λw1 hb=>?_;go_wp2;go_ret;exact⟨za4 HT.o.symm,hb⟩
end
end Go.Proofs.YtpongdpnbclchaaGreatDoor
