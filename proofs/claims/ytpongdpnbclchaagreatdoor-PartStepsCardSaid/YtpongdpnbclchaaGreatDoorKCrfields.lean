import Derived.Test.YtpongdpnbclchaaGreatDoorKCpath
set_option maxHeartbeats 8000000
set_option linter.all false
namespace Go.Proofs.YtpongdpnbclchaaGreatDoor
section
open Go.RowKit
def kws:List (List UInt8):=[[118,97,114],[97,114,114,97,121],[105,110,112,117,116],[97,115,115,101,114,116],[115,107,105,112],[105,102],[101,108,115,101],[119,104,105,108,101],[116,114,117,101],[102,97,108,115,101]]
def CE(k:Nat)(l:List UInt8):Bool:=(kws.drop k).any (λx=>x==l)
theorem ym3(l:List UInt8):kwL l=CE 0 l:=by have e:(λx:List UInt8=>x==l)=(λx=>l==x):=funext λx=>BEq.comm;unfold CE;rw[e];simp only[kwL,kws,List.drop_zero,List.any_cons,List.any_nil,Bool.or_false,Bool.or_assoc]
theorem zq7(s:ByteArray)(w:World) :
  Calls Tryz.prog 136 #[.string s] w λe w'=>e=.returned (.bool (kwL s.toList))/\Below w.heap.size w w':=by
 have HK:Hi (kwL s.toList=CE 0 s.toList):=ym3 _;go_enter Tryz.func136,Tryz.ntmps136;go_wp2
 go_loop [4] (λi=>∃k:Nat,k<=10/\i=nI k/\Hi (kwL s.toList=CE k s.toList)) (λi=>10-(intOf i).toNat)
 case atStart=>exact⟨0,by omega,rfl,HK⟩
 obtain⟨k,hk,rfl,hr⟩:=hrel;have h11:k=0\/k=1\/k=2\/k=3\/k=4\/k=5\/k=6\/k=7\/k=8\/k=9\/k=10:=oM;clear HK;rcases h11 with rfl | rfl | rfl | rfl | rfl | rfl | rfl | rfl | rfl | rfl | rfl
 ·go_wp2
  ·go_ret
   exact⟨za4 (by rw[hr.o];simp only[CE,kws,List.drop_succ_cons,List.drop_zero,List.any_cons, *,Bool.true_or]),(Below.refl _ _).alloc (Nat.le_refl _) _⟩
  exact⟨⟨1,by omega,rfl,by unfold Hi;rw[hr.o];simp only[CE,kws,List.drop_succ_cons,List.drop_zero,List.any_cons, *,Bool.false_or]⟩,by simp[intOf]⟩
 ·go_wp2
  ·go_ret
   exact⟨za4 (by rw[hr.o];simp only[CE,kws,List.drop_succ_cons,List.drop_zero,List.any_cons, *,Bool.true_or]),(Below.refl _ _).alloc (Nat.le_refl _) _⟩
  exact⟨⟨2,by omega,rfl,by unfold Hi;rw[hr.o];simp only[CE,kws,List.drop_succ_cons,List.drop_zero,List.any_cons, *,Bool.false_or]⟩,by simp[intOf]⟩
 ·go_wp2
  ·go_ret
   exact⟨za4 (by rw[hr.o];simp only[CE,kws,List.drop_succ_cons,List.drop_zero,List.any_cons, *,Bool.true_or]),(Below.refl _ _).alloc (Nat.le_refl _) _⟩
  exact⟨⟨3,by omega,rfl,by unfold Hi;rw[hr.o];simp only[CE,kws,List.drop_succ_cons,List.drop_zero,List.any_cons, *,Bool.false_or]⟩,by simp[intOf]⟩
 ·go_wp2
  ·go_ret
   exact⟨za4 (by rw[hr.o];simp only[CE,kws,List.drop_succ_cons,List.drop_zero,List.any_cons, *,Bool.true_or]),(Below.refl _ _).alloc (Nat.le_refl _) _⟩
  exact⟨⟨4,by omega,rfl,by unfold Hi;rw[hr.o];simp only[CE,kws,List.drop_succ_cons,List.drop_zero,List.any_cons, *,Bool.false_or]⟩,by simp[intOf]⟩
 ·go_wp2
  ·go_ret
   exact⟨za4 (by rw[hr.o];simp only[CE,kws,List.drop_succ_cons,List.drop_zero,List.any_cons, *,Bool.true_or]),(Below.refl _ _).alloc (Nat.le_refl _) _⟩
  exact⟨⟨5,by omega,rfl,by unfold Hi;rw[hr.o];simp only[CE,kws,List.drop_succ_cons,List.drop_zero,List.any_cons, *,Bool.false_or]⟩,by simp[intOf]⟩
 ·go_wp2
  ·go_ret
   exact⟨za4 (by rw[hr.o];simp only[CE,kws,List.drop_succ_cons,List.drop_zero,List.any_cons, *,Bool.true_or]),(Below.refl _ _).alloc (Nat.le_refl _) _⟩
  exact⟨⟨6,by omega,rfl,by unfold Hi;rw[hr.o];simp only[CE,kws,List.drop_succ_cons,List.drop_zero,List.any_cons, *,Bool.false_or]⟩,by simp[intOf]⟩
 ·go_wp2
  ·go_ret
   exact⟨za4 (by rw[hr.o];simp only[CE,kws,List.drop_succ_cons,List.drop_zero,List.any_cons, *,Bool.true_or]),(Below.refl _ _).alloc (Nat.le_refl _) _⟩
  exact⟨⟨7,by omega,rfl,by unfold Hi;rw[hr.o];simp only[CE,kws,List.drop_succ_cons,List.drop_zero,List.any_cons, *,Bool.false_or]⟩,by simp[intOf]⟩
 ·go_wp2
  ·go_ret
   exact⟨za4 (by rw[hr.o];simp only[CE,kws,List.drop_succ_cons,List.drop_zero,List.any_cons, *,Bool.true_or]),(Below.refl _ _).alloc (Nat.le_refl _) _⟩
  exact⟨⟨8,by omega,rfl,by unfold Hi;rw[hr.o];simp only[CE,kws,List.drop_succ_cons,List.drop_zero,List.any_cons, *,Bool.false_or]⟩,by simp[intOf]⟩
 ·go_wp2
  ·go_ret
   exact⟨za4 (by rw[hr.o];simp only[CE,kws,List.drop_succ_cons,List.drop_zero,List.any_cons, *,Bool.true_or]),(Below.refl _ _).alloc (Nat.le_refl _) _⟩
  exact⟨⟨9,by omega,rfl,by unfold Hi;rw[hr.o];simp only[CE,kws,List.drop_succ_cons,List.drop_zero,List.any_cons, *,Bool.false_or]⟩,by simp[intOf]⟩
 ·go_wp2
  ·go_ret
   exact⟨za4 (by rw[hr.o];simp only[CE,kws,List.drop_succ_cons,List.drop_zero,List.any_cons, *,Bool.true_or]),(Below.refl _ _).alloc (Nat.le_refl _) _⟩
  exact⟨⟨10,by omega,rfl,by unfold Hi;rw[hr.o];simp only[CE,kws,List.drop_succ_cons,List.drop_zero,List.any_cons, *,Bool.false_or]⟩,by simp[intOf]⟩
 go_wp2;go_ret;exact⟨za4 (by rw[hr.o];rfl),(Below.refl _ _).alloc (Nat.le_refl _) _⟩
theorem zh9(k:Int)(w:World) :
  Calls Tryz.prog 78 #[nI k] w λe w'=>e=.returned (.bool (decide (2<=k)&&decide (k<=8)))/\w'=w:=by
 go_enter Tryz.func78,Tryz.ntmps78;go_wp2
 all_goals (go_ret;refine⟨za4 ?_,rfl⟩;simp;omega)
theorem zT6(k:Int)(w:World) :
  Calls Tryz.prog 112 #[nI k] w λe w'=>e=.returned (.bool (decide (10<=k)&&decide (k<=15)))/\w'=w:=by
 go_enter Tryz.func112,Tryz.ntmps112;go_wp2
 all_goals (go_ret;refine⟨za4 ?_,rfl⟩;simp;omega)
def AT(k:Int):Int:=if k=2\/k=5\/k=13\/k=14 then 1 else if k=3\/k=7\/k=8\/k=15 then 2 else 0
theorem zl6{k:IntKind}{a b:Int}(h:a=b):Ending.returned (.int k a)=.returned (.int k b):=by rw[h]
theorem ze3(k:Int)(w:World) :
  Calls Tryz.prog 76 #[nI k] w λe w'=>e=.returned (nI (AT k))/\w'=w:=by
 go_enter Tryz.func76,Tryz.ntmps76;go_wp2
 all_goals first
  |(exfalso;simp_all;done)
  |(go_ret;refine⟨zl6 ?_,rfl⟩;unfold AT;simp only[beq_iff_eq,beq_eq_false_iff_ne] at *;omega)
theorem zZ6(s:ByteArray)(w:World)(hs:s.size<=maxLen) :
  Calls Tryz.prog 111 #[.string s] w λe w'=>e=.returned (.bool (CL s.toList))/\Below w.heap.size w w':=by
 unfold maxLen at hs;have hl:=zc2 s;by_cases he:(s.size:Int)<1
 ·have h0:s.toList=[]:=List.length_eq_zero_iff.1 oM
  have HF:Hi (CL s.toList=false):=by unfold Hi;rw[h0];rfl
  clear hl h0;go_enter Tryz.func111,Tryz.ntmps111;go_wp2;go_ret;exact⟨za4 HF.o.symm,Below.refl _ _⟩
 have he':1<=(s.size:Int):=by omega
 have dl:decide ((s.size:Int)<1)=false:=dF_ he;clear he;have hne:¬s.toList=[]:=by intro h;rw[h]at hl;simp at hl;omega
 have hne2:s.toList.isEmpty=false:=by simpa using hne
 by_cases h16:16<(s.size:Int)
 ·have HF:Hi (CL s.toList=false):=by
   have h:decide (s.toList.length<=16)=false:=by simp[hl];omega
   unfold Hi CL;rw[h];simp
  clear hl hne hne2;go_enter Tryz.func111,Tryz.ntmps111;go_wp2;go_ret;exact⟨za4 HF.o.symm,Below.refl _ _⟩
 have h16':(s.size:Int)<=16:=by omega
 have d16:decide (16<(s.size:Int))=false:=dF_ h16;clear h16;have h0:0<s.size:=by omega
 have HL:Hi _:=hl;have HE:Hi _:=hne2;clear hl hne hne2;cases hc:DA s[0]
 case false =>
  have HF:Hi (CL s.toList=false):=by
   unfold Hi CL;rw[zz4 s h0];have e:=zh8 s 0 h0;rw[List.drop_zero]at e;cases hd:BX s[0]
   ·rw[e,List.all_cons]
    have:okc s[0]=false:=by unfold okc;rw[hc,hd];rfl
    rw[this];simp
   simp
  go_enter Tryz.func111,Tryz.ntmps111
  go_wp2_with (go_at_call 102;refine(zh5 _ _).mono ?_;rintro e w' ⟨rfl,rfl⟩;rw[hc])
  go_ret;exact⟨za4 HF.o.symm,Below.refl _ _⟩
 cases hk:kwL s.toList
 case true =>
  have HF:Hi (CL s.toList=false):=by unfold Hi CL;rw[hk];simp
  go_enter Tryz.func111,Tryz.ntmps111
  go_wp2_with (go_at_call 102;refine(zh5 _ _).mono ?_;rintro e w' ⟨rfl,rfl⟩;rw[hc])
  refine(zq7 _ _).mono ?_;rintro e w1 ⟨rfl,hb⟩;rw[hk];go_wp2;go_ret;exact⟨za4 HF.o.symm,hb⟩
 have HN:Hi (CL s.toList=s.toList.all okc):=by
  have hd:BX s[0]=false:=by have:=(zo8 s[0]).1 hc;rw[Bool.eq_false_iff,Ne,zi3];omega
  have h:decide (s.toList.length<=16)=true:=by simp[HL.o];omega
  unfold Hi CL;rw[zz4 s h0,hd,hk,HE.o,h];simp
 go_enter Tryz.func111,Tryz.ntmps111
 go_wp2_with (go_at_call 102;refine(zh5 _ _).mono ?_;rintro e w' ⟨rfl,rfl⟩;rw[hc])
 refine(zq7 _ _).mono ?_;rintro e w1 ⟨rfl,hb⟩;rw[hk];clear hk hc;go_wp2
 go_loop [3] (λi=>∃k:Nat,k<=s.size/\i=nI k/\Hi (s.toList.all okc=(s.toList.drop k).all okc)) (λi=>s.size-(intOf i).toNat)
 case atStart=>exact⟨0,Nat.zero_le _,rfl,by unfold Hi;rw[List.drop_zero]⟩
 obtain⟨k,hk,rfl,hr⟩:=hrel;by_cases hlt:k<s.size
 ·cases hc:DA s[k]
  case true =>
   have H:Hi (s.toList.all okc=(s.toList.drop (k+1)).all okc):=by unfold Hi;rw[hr.o,zh8 s k hlt,List.all_cons];unfold okc;rw[hc];rfl
   clear hr
   go_wp2_with (go_at_call 102;refine(zh5 _ _).mono ?_;rintro e w' ⟨rfl,rfl⟩;rw[hc])
   go_round
   case rel=>exact⟨k+1,by omega,by go_num,H⟩
   case measure=>simp[intOf];omega
  cases hd:BX s[k]
  case true =>
   have H:Hi (s.toList.all okc=(s.toList.drop (k+1)).all okc):=by unfold Hi;rw[hr.o,zh8 s k hlt,List.all_cons];unfold okc;rw[hc,hd];rfl
   clear hr
   go_wp2_with (first|(go_at_call 102;refine(zh5 _ _).mono ?_;rintro e w' ⟨rfl,rfl⟩;rw[hc]) | (go_at_call 103;refine(zE1 _ _).mono ?_;rintro e w' ⟨rfl,rfl⟩;rw[hd]))
   go_round
   case rel=>exact⟨k+1,by omega,by go_num,H⟩
   case measure=>simp[intOf];omega
  have H:Hi (CL s.toList=false):=by unfold Hi;rw[HN.o,hr.o,zh8 s k hlt,List.all_cons];unfold okc;rw[hc,hd];rfl
  clear hr
  go_wp2_with (first|(go_at_call 102;refine(zh5 _ _).mono ?_;rintro e w' ⟨rfl,rfl⟩;rw[hc]) | (go_at_call 103;refine(zE1 _ _).mono ?_;rintro e w' ⟨rfl,rfl⟩;rw[hd]))
  go_ret;exact⟨za4 H.o.symm,hb⟩
 have H:Hi (CL s.toList=true):=by unfold Hi;rw[HN.o,hr.o,List.drop_of_length_le (by rw[HL.o];omega)];rfl
 clear hr;go_wp2;go_ret;exact⟨za4 H.o.symm,hb⟩
def wc6(k:Int):Bool:=decide (2<=k)&&decide (k<=8)
def wj3(k:Int):Bool:=decide (10<=k)&&decide (k<=15)
def EN(o h k:Int):Bool :=
 if o=9 then wc6 k else if o=7 then (h==0&&wj3 k)||((h==1||h==2)&&k==9)
 else if o=8 then (h==0&&wj3 k)||(h==1&&k==9) else decide (h<AT o)&&wj3 k
theorem zs3(d o h k:Int)(w:World) :
  Calls Tryz.prog 79 #[.agg #[nI d,nI o,nI h],nI k] w λe w'=>e=.returned (.bool (EN o h k))/\Below w.heap.size w w':=by
 have hs:∀w,Calls Tryz.prog 78 #[nI k] w λe w'=>e=.returned (.bool (wc6 k))/\w'=w:=zh9 k;have hx:∀w,Calls Tryz.prog 112 #[nI k] w λe w'=>e=.returned (.bool (wj3 k))/\w'=w:=zT6 k;have HS:Hi _:=hs;have HX:Hi _:=hx;clear hs hx;by_cases h789:o=9\/o=7\/o=8
 ·go_enter Tryz.func79,Tryz.ntmps79
  have h9:(o==9)=decide (o=9):=rfl;rcases h789 with rfl | rfl | rfl
  all_goals
   go_wp2_with (first|(go_at_call 78;refine mq (HS.o _) λw' rfl=>?_) | (go_at_call 112;refine mq (HX.o _) λw' rfl=>?_))
   all_goals (go_ret;refine⟨za4 ?_,(Below.refl _ _).alloc (Nat.le_refl _) _⟩;simp_all [EN])
 have h9:(o==9)=false:=by rw[beq_eq_false_iff_ne];omega
 have h7:(o==7)=false:=by rw[beq_eq_false_iff_ne];omega
 have h8:(o==8)=false:=by rw[beq_eq_false_iff_ne];omega
 have HR:Hi (EN o h k=(decide (h<AT o)&&wj3 k)):=by unfold Hi EN;rw[if_neg (by omega),if_neg (by omega),if_neg (by omega)]
 clear h789;cases hd:decide (h<AT o)
 all_goals
  rw[hd]at HR;go_enter Tryz.func79,Tryz.ntmps79;go_wp2
  go_quiet ((first|(go_at_call 76;exact Calls.quiet_of_same (ze3 _ _)) | (go_at_call 112;exact Calls.quiet_of_same (HX.o _))))
  go_wp2;go_ret;refine⟨za4 (by rw[HR.o];rfl),?_⟩;exact below_drewN ((Below.refl _ _).alloc (nR_ _) _) _
end
section
open Go.RowKit
def wa0(k:Int):Bool:=k==0||k==1||k==2||k==3||k==4||k==12||k==13
def wj8(k num op:Int):Bool :=
 if k=1\/k=10 then decide (0<=num)&&op==0
 else if k=11 then (num==0||num==1)&&op==0
 else if k=14 then num==0&&(op==1||op==2)
 else if k=15 then num==0&&(decide (3<=op)&&decide (op<=15))
 else num==0&&op==0
def CF(k:Int)(name:List UInt8)(num op:Int):Bool :=
 decide (0<=k)&&decide (k<=15)&&(if wa0 k then CL name else name.isEmpty)&&wj8 k num op
theorem wa6{W w1:World}(hb:Below W.heap.size W w1):(∀b o,b<W.heap.size->w1.cell? (aD b o)=W.cell? (aD b o))/\(∀b o,b<W.heap.size->w1.frozen? (aD b o)=W.frozen? (aD b o)) :=
 ⟨λb o h=>hb.cell (p:=⟨b,o,none⟩) h,λb o h=>hb.frozen (p:=⟨b,o,none⟩) h⟩
theorem zw7(d k num op a:Int)(s:ByteArray)(w:World)(hs:s.size<=maxLen) :
  Calls Tryz.prog 77 #[.agg #[nI d,nI k,.string s,nI num,nI op,nI a]] w λe w'=>e=.returned (.bool (CF k s.toList num op))/\Below w.heap.size w w':=by
 have HS:Hi _:=hs;clear hs;have h17:k<0\/15<k\/k=0\/k=1\/k=2\/k=3\/k=4\/k=12\/k=13\/k=5\/k=6\/k=7\/k=8\/k=9\/k=10\/k=11\/k=14\/k=15:=oM;go_enter Tryz.func77,Tryz.ntmps77;rcases h17 with h | h | rfl | rfl | rfl | rfl | rfl | rfl | rfl | rfl | rfl | rfl | rfl | rfl | rfl | rfl | rfl | rfl
 ·go_wp2
  go_ret;refine⟨za4 ?_,(Below.refl _ _).alloc (nR_ _) _⟩;have:decide (0<=k)=false:=by simp;omega
  unfold CF;rw[this];rfl
 ·have h0:0<=k:=oM
  go_wp2;go_ret;refine⟨za4 ?_,(Below.refl _ _).alloc (nR_ _) _⟩;have:decide (k<=15)=false:=by simp;omega
  unfold CF;rw[this];simp
 iterate 7
  ·go_wp2_with fail
   refine mq (zZ6 _ _ HS.o) λw1 hb=>?_;obtain⟨hc,hf⟩:=wa6 hb;have HB:Hi (Below w.heap.size w w1):=((Below.refl _ _).alloc (nR_ _) _).trans (hb.mono sI);clear hb;cases hn:CL s.toList
   ·go_wp2
    go_ret;exact⟨za4 (by simp[CF,wa0,hn]),HB.o⟩
   go_wp2
   all_goals (go_ret;refine⟨za4 ?_,HB.o⟩)
   all_goals (clear HB hc hf HS;first|(simp_all [CF,wa0,wj8];done) | (simp[CF,wa0,wj8,hn];omega))
 all_goals
  by_cases he:s.toList=[]
  ·go_wp2
   all_goals (go_ret;refine⟨za4 ?_,(Below.refl _ _).alloc (nR_ _) _⟩)
   all_goals (clear HS;first|(simp_all [CF,wa0,wj8];done) | (simp[CF,wa0,wj8,he];omega))
  have he2:s.toList.isEmpty=false:=by simpa using he
  go_wp2;go_ret;refine⟨za4 ?_,(Below.refl _ _).alloc (nR_ _) _⟩;simp[CF,wa0,he]
end
end Go.Proofs.YtpongdpnbclchaaGreatDoor
