import Derived.Test.YthoegkcpmgalbaaGreatDoorKCpath
set_option maxHeartbeats 8000000
set_option linter.all false
namespace Go.Proofs.YthoegkcpmgalbaaGreatDoor
open Go.RowKit
variable{B b k:Nat}{S st:List AW}{g:Bool}{w w1:World}
def kws:List (List UInt8):=[[118,97,114],[97,114,114,97,121],[105,110,112,117,116],[97,115,115,101,114,116],[115,107,105,112],[105,102],[101,108,115,101],[119,104,105,108,101],[116,114,117,101],[102,97,108,115,101]]
def CK(k:Nat)(l:List UInt8):Bool:=(kws.drop k).any (λx=>x==l)
def ym3(l:List UInt8):kwL l=CK 0 l:=by have e:(λx:List UInt8=>x==l)=(λx=>l==x):=funext λx=>BEq.comm;unfold CK;rw[e];simp only[kwL,kws,bB,bO,List.any_nil,fD,Bool.or_assoc]
def zq7(s:ByteArray)(w:World) :
  Calls Tryz.prog 147 #[.string s] w λe w'=>e=.returned (.bool (kwL s.toList))/\Below w.heap.size w w':=by
 have G:Hi (kwL s.toList=CK 0 s.toList):=ym3 _;go_enter Tryz.func147,Tryz.ntmps147;go_wp2
 go_loop [4] (λi=>∃k:Nat,k<=10/\i=nI k/\Hi (kwL s.toList=CK k s.toList)) (λi=>10-(intOf i).toNat)
 case atStart=>exact⟨0,oM,rfl,G⟩
 obtain⟨k,I,rfl,d⟩:=hrel;have D:k=0\/k=1\/k=2\/k=3\/k=4\/k=5\/k=6\/k=7\/k=8\/k=9\/k=10:=oM;clear G;rcases D with rfl | rfl | rfl | rfl | rfl | rfl | rfl | rfl | rfl | rfl | rfl
 ·go_wp2
  ·go_ret
   exact⟨za4 (by rw[d.o];simp only[CK,kws,bI,bB,bO, *,dV]),(Below.refl _ _).alloc (aK _) _⟩
  exact⟨⟨1,oM,rfl,by unfold Hi;rw[d.o];simp only[CK,kws,bI,bB,bO, *,dI]⟩,by simp[intOf]⟩
 ·go_wp2
  ·go_ret
   exact⟨za4 (by rw[d.o];simp only[CK,kws,bI,bB,bO, *,dV]),(Below.refl _ _).alloc (aK _) _⟩
  exact⟨⟨2,oM,rfl,by unfold Hi;rw[d.o];simp only[CK,kws,bI,bB,bO, *,dI]⟩,by simp[intOf]⟩
 ·go_wp2
  ·go_ret
   exact⟨za4 (by rw[d.o];simp only[CK,kws,bI,bB,bO, *,dV]),(Below.refl _ _).alloc (aK _) _⟩
  exact⟨⟨3,oM,rfl,by unfold Hi;rw[d.o];simp only[CK,kws,bI,bB,bO, *,dI]⟩,by simp[intOf]⟩
 ·go_wp2
  ·go_ret
   exact⟨za4 (by rw[d.o];simp only[CK,kws,bI,bB,bO, *,dV]),(Below.refl _ _).alloc (aK _) _⟩
  exact⟨⟨4,oM,rfl,by unfold Hi;rw[d.o];simp only[CK,kws,bI,bB,bO, *,dI]⟩,by simp[intOf]⟩
 ·go_wp2
  ·go_ret
   exact⟨za4 (by rw[d.o];simp only[CK,kws,bI,bB,bO, *,dV]),(Below.refl _ _).alloc (aK _) _⟩
  exact⟨⟨5,oM,rfl,by unfold Hi;rw[d.o];simp only[CK,kws,bI,bB,bO, *,dI]⟩,by simp[intOf]⟩
 ·go_wp2
  ·go_ret
   exact⟨za4 (by rw[d.o];simp only[CK,kws,bI,bB,bO, *,dV]),(Below.refl _ _).alloc (aK _) _⟩
  exact⟨⟨6,oM,rfl,by unfold Hi;rw[d.o];simp only[CK,kws,bI,bB,bO, *,dI]⟩,by simp[intOf]⟩
 ·go_wp2
  ·go_ret
   exact⟨za4 (by rw[d.o];simp only[CK,kws,bI,bB,bO, *,dV]),(Below.refl _ _).alloc (aK _) _⟩
  exact⟨⟨7,oM,rfl,by unfold Hi;rw[d.o];simp only[CK,kws,bI,bB,bO, *,dI]⟩,by simp[intOf]⟩
 ·go_wp2
  ·go_ret
   exact⟨za4 (by rw[d.o];simp only[CK,kws,bI,bB,bO, *,dV]),(Below.refl _ _).alloc (aK _) _⟩
  exact⟨⟨8,oM,rfl,by unfold Hi;rw[d.o];simp only[CK,kws,bI,bB,bO, *,dI]⟩,by simp[intOf]⟩
 ·go_wp2
  ·go_ret
   exact⟨za4 (by rw[d.o];simp only[CK,kws,bI,bB,bO, *,dV]),(Below.refl _ _).alloc (aK _) _⟩
  exact⟨⟨9,oM,rfl,by unfold Hi;rw[d.o];simp only[CK,kws,bI,bB,bO, *,dI]⟩,by simp[intOf]⟩
 ·go_wp2
  ·go_ret
   exact⟨za4 (by rw[d.o];simp only[CK,kws,bI,bB,bO, *,dV]),(Below.refl _ _).alloc (aK _) _⟩
  exact⟨⟨10,oM,rfl,by unfold Hi;rw[d.o];simp only[CK,kws,bI,bB,bO, *,dI]⟩,by simp[intOf]⟩
 go_wp2;go_ret;exact⟨za4 (by rw[d.o];rfl),(Below.refl _ _).alloc (aK _) _⟩
def zh9(k:Int)(w:World) :
  Calls Tryz.prog 81 #[nI k] w λe w'=>e=.returned (.bool (decide (2<=k)&&decide (k<=8)))/\w'=w:=by
 go_enter Tryz.func81,Tryz.ntmps81;go_wp2
 all_goals (go_ret;refine⟨za4 ?_,rfl⟩;simp;omega)
def zT6(k:Int)(w:World) :
  Calls Tryz.prog 118 #[nI k] w λe w'=>e=.returned (.bool (decide (10<=k)&&decide (k<=15)))/\w'=w:=by
 go_enter Tryz.func118,Tryz.ntmps118;go_wp2
 all_goals (go_ret;refine⟨za4 ?_,rfl⟩;simp;omega)
def AS(k:Int):Int:=if k=2\/k=5\/k=13\/k=14 then 1 else if k=3\/k=7\/k=8\/k=15 then 2 else 0
def zl6{k:IntKind}{a b:Int}(h:a=b):Ending.returned (.int k a)=.returned (.int k b):=by rw[h]
def ze3(k:Int)(w:World) :
  Calls Tryz.prog 79 #[nI k] w λe w'=>e=.returned (nI (AS k))/\w'=w:=by
 go_enter Tryz.func79,Tryz.ntmps79;go_wp2
 all_goals first
  |(exfalso;simp_all;done)
  |(go_ret;refine⟨zl6 ?_,rfl⟩;unfold AS;simp only[bZ,aF] at *;omega)
def zZ6(s:ByteArray)(w:World)(hs:s.size<=maxLen) :
  Calls Tryz.prog 117 #[.string s] w λe w'=>e=.returned (.bool (CP s.toList))/\Below w.heap.size w w':=by
 unfold maxLen at hs;have G:=zc2 s;by_cases d:(s.size:Int)<1
 ·have K:s.toList=[]:=cX.1 oM
  have I:Hi (CP s.toList=false):=by unfold Hi;rw[K];rfl
  clear G K;go_enter Tryz.func117,Tryz.ntmps117;go_wp2;go_ret;exact⟨za4 I.o.symm,Below.refl _ _⟩
 have Y:1<=(s.size:Int):=by omega
 have dl:decide ((s.size:Int)<1)=false:=dF_ d;clear d;have D:¬s.toList=[]:=by intro h;rw[h]at G;simp at G;omega
 have d:s.toList.isEmpty=false:=by simpa using D
 by_cases J:16<(s.size:Int)
 ·have I:Hi (CP s.toList=false):=by
   have h:decide (s.toList.length<=16)=false:=by simp[G];omega
   unfold Hi CP;rw[h];simp
  clear G D d;go_enter Tryz.func117,Tryz.ntmps117;go_wp2;go_ret;exact⟨za4 I.o.symm,Below.refl _ _⟩
 have W:(s.size:Int)<=16:=by omega
 have a1:decide (16<(s.size:Int))=false:=dF_ J;clear J;have K:0<s.size:=by omega
 have R:Hi _:=G;have Z:Hi _:=d;clear G D d;cases d:DD s[0]
 case false =>
  have I:Hi (CP s.toList=false):=by
   unfold Hi CP;rw[zz4 s K];have e:=zh8 s 0 K;rw[bB]at e;cases D:CC s[0]
   ·rw[e,eO]
    have:okc s[0]=false:=by unfold okc;rw[d,D];rfl
    rw[this];simp
   simp
  go_enter Tryz.func117,Tryz.ntmps117
  go_wp2_with (go_at_call 108;refine(zh5 _ _).mono ?_;rintro e w' ⟨rfl,rfl⟩;rw[d])
  go_ret;exact⟨za4 I.o.symm,Below.refl _ _⟩
 cases L:kwL s.toList
 case true =>
  have I:Hi (CP s.toList=false):=by unfold Hi CP;rw[L];simp
  go_enter Tryz.func117,Tryz.ntmps117
  go_wp2_with (go_at_call 108;refine(zh5 _ _).mono ?_;rintro e w' ⟨rfl,rfl⟩;rw[d])
  refine(zq7 _ _).mono ?_;rintro e w1 ⟨rfl,O⟩;rw[L];go_wp2;go_ret;exact⟨za4 I.o.symm,O⟩
 have X:Hi (CP s.toList=s.toList.all okc):=by
  have D:CC s[0]=false:=by have:=(zo8 s[0]).1 d;rw[eS,Ne,zi3];omega
  have h:decide (s.toList.length<=16)=true:=by simp[R.o];omega
  unfold Hi CP;rw[zz4 s K,D,L,Z.o,h];simp
 go_enter Tryz.func117,Tryz.ntmps117
 go_wp2_with (go_at_call 108;refine(zh5 _ _).mono ?_;rintro e w' ⟨rfl,rfl⟩;rw[d])
 refine(zq7 _ _).mono ?_;rintro e w1 ⟨rfl,O⟩;rw[L];clear L d;go_wp2
 go_loop [3] (λi=>∃k:Nat,k<=s.size/\i=nI k/\Hi (s.toList.all okc=(s.toList.drop k).all okc)) (λi=>s.size-(intOf i).toNat)
 case atStart=>exact⟨0,dQ _,rfl,by unfold Hi;rw[bB]⟩
 obtain⟨k,L,rfl,G⟩:=hrel;by_cases J:k<s.size
 ·cases d:DD s[k]
  case true =>
   have H:Hi (s.toList.all okc=(s.toList.drop (k+1)).all okc):=by unfold Hi;rw[G.o,zh8 s k J,eO];unfold okc;rw[d];rfl
   clear G
   go_wp2_with (go_at_call 108;refine(zh5 _ _).mono ?_;rintro e w' ⟨rfl,rfl⟩;rw[d])
   go_round
   case rel=>exact⟨k+1,oM,by go_num,H⟩
   case measure=>simp[intOf];omega
  cases D:CC s[k]
  case true =>
   have H:Hi (s.toList.all okc=(s.toList.drop (k+1)).all okc):=by unfold Hi;rw[G.o,zh8 s k J,eO];unfold okc;rw[d,D];rfl
   clear G
   go_wp2_with (first|(go_at_call 108;refine(zh5 _ _).mono ?_;rintro e w' ⟨rfl,rfl⟩;rw[d]) | (go_at_call 109;refine(zE1 _ _).mono ?_;rintro e w' ⟨rfl,rfl⟩;rw[D]))
   go_round
   case rel=>exact⟨k+1,oM,by go_num,H⟩
   case measure=>simp[intOf];omega
  have H:Hi (CP s.toList=false):=by unfold Hi;rw[X.o,G.o,zh8 s k J,eO];unfold okc;rw[d,D];rfl
  clear G
  go_wp2_with (first|(go_at_call 108;refine(zh5 _ _).mono ?_;rintro e w' ⟨rfl,rfl⟩;rw[d]) | (go_at_call 109;refine(zE1 _ _).mono ?_;rintro e w' ⟨rfl,rfl⟩;rw[D]))
  go_ret;exact⟨za4 H.o.symm,O⟩
 have H:Hi (CP s.toList=true):=by unfold Hi;rw[X.o,G.o,aU (by rw[R.o];omega)];rfl
 clear G;go_wp2;go_ret;exact⟨za4 H.o.symm,O⟩
def wc8(k:Int):Bool:=decide (2<=k)&&decide (k<=8)
def wj3(k:Int):Bool:=decide (10<=k)&&decide (k<=15)
def EQ(o h k:Int):Bool :=
 if o=9 then wc8 k else if o=7 then (h==0&&wj3 k)||((h==1||h==2)&&k==9)
 else if o=8 then (h==0&&wj3 k)||(h==1&&k==9) else decide (h<AS o)&&wj3 k
def zs3(d o h k:Int)(w:World) :
  Calls Tryz.prog 82 #[.agg #[nI d,nI o,nI h],nI k] w λe w'=>e=.returned (.bool (EQ o h k))/\Below w.heap.size w w':=by
 have G:∀w,Calls Tryz.prog 81 #[nI k] w λe w'=>e=.returned (.bool (wc8 k))/\w'=w:=zh9 k;have D:∀w,Calls Tryz.prog 118 #[nI k] w λe w'=>e=.returned (.bool (wj3 k))/\w'=w:=zT6 k;have J:Hi _:=G;have I:Hi _:=D;clear G D;by_cases D:o=9\/o=7\/o=8
 ·go_enter Tryz.func82,Tryz.ntmps82
  have K:(o==9)=decide (o=9):=rfl;rcases D with rfl | rfl | rfl
  all_goals
   go_wp2_with (first|(go_at_call 81;refine mq (J.o _) λw' rfl=>?_) | (go_at_call 118;refine mq (I.o _) λw' rfl=>?_))
   all_goals (go_ret;refine⟨za4 ?_,(Below.refl _ _).alloc (aK _) _⟩;simp_all [EQ])
 have K:(o==9)=false:=by rw[aF];omega
 have L:(o==7)=false:=by rw[aF];omega
 have O:(o==8)=false:=by rw[aF];omega
 have G:Hi (EQ o h k=(decide (h<AS o)&&wj3 k)):=by unfold Hi EQ;rw[aC oM,aC oM,aC oM]
 clear D;cases D:decide (h<AS o)
 all_goals
  rw[D]at G;go_enter Tryz.func82,Tryz.ntmps82;go_wp2
  go_quiet ((first|(go_at_call 79;exact Calls.quiet_of_same (ze3 _ _)) | (go_at_call 118;exact Calls.quiet_of_same (I.o _))))
  go_wp2;go_ret;refine⟨za4 (by rw[G.o];rfl),?_⟩;exact below_drewN ((Below.refl _ _).alloc (nR_ _) _) _
def wa0(k:Int):Bool:=k==0||k==1||k==2||k==3||k==4||k==12||k==13
def wk3(k num op:Int):Bool :=
 if k=1\/k=10 then decide (0<=num)&&op==0
 else if k=11 then (num==0||num==1)&&op==0
 else if k=14 then num==0&&(op==1||op==2)
 else if k=15 then num==0&&(decide (3<=op)&&decide (op<=15))
 else num==0&&op==0
def CL(k:Int)(name:List UInt8)(num op:Int):Bool :=
 decide (0<=k)&&decide (k<=15)&&(if wa0 k then CP name else name.isEmpty)&&wk3 k num op
def wa6{W:World}(d:Below W.heap.size W w1):(∀b o,b<W.heap.size->w1.cell? (aD b o)=W.cell? (aD b o))/\(∀b o,b<W.heap.size->w1.frozen? (aD b o)=W.frozen? (aD b o)) :=
 ⟨λb o h=>d.cell (p:=⟨b,o,none⟩) h,λb o h=>d.frozen (p:=⟨b,o,none⟩) h⟩
def zw7(d k num op a:Int)(s:ByteArray)(w:World)(D:s.size<=maxLen) :
  Calls Tryz.prog 80 #[.agg #[nI d,nI k,.string s,nI num,nI op,nI a]] w λe w'=>e=.returned (.bool (CL k s.toList num op))/\Below w.heap.size w w':=by
 have J:Hi _:=D;clear D;have I:k<0\/15<k\/k=0\/k=1\/k=2\/k=3\/k=4\/k=12\/k=13\/k=5\/k=6\/k=7\/k=8\/k=9\/k=10\/k=11\/k=14\/k=15:=oM;go_enter Tryz.func80,Tryz.ntmps80;rcases I with h | h | rfl | rfl | rfl | rfl | rfl | rfl | rfl | rfl | rfl | rfl | rfl | rfl | rfl | rfl | rfl | rfl
 ·go_wp2
  go_ret;refine⟨za4 ?_,(Below.refl _ _).alloc (nR_ _) _⟩;have:decide (0<=k)=false:=by simp;omega
  unfold CL;rw[this];rfl
 ·have D:0<=k:=oM
  go_wp2;go_ret;refine⟨za4 ?_,(Below.refl _ _).alloc (nR_ _) _⟩;have:decide (k<=15)=false:=by simp;omega
  unfold CL;rw[this];simp
 iterate 7
  ·go_wp2_with fail
   refine mq (zZ6 _ _ J.o) λw1 D=>?_;obtain⟨L,O⟩:=wa6 D;have G:Hi (Below w.heap.size w w1):=((Below.refl _ _).alloc (nR_ _) _).trans (D.mono sI);clear D;cases K:CP s.toList
   ·go_wp2
    go_ret;exact⟨za4 (by simp[CL,wa0,K]),G.o⟩
   go_wp2
   all_goals (go_ret;refine⟨za4 ?_,G.o⟩)
   all_goals (clear G L O J;first|(simp_all [CL,wa0,wk3];done) | (simp[CL,wa0,wk3,K];omega))
 all_goals
  by_cases D:s.toList=[]
  ·go_wp2
   all_goals (go_ret;refine⟨za4 ?_,(Below.refl _ _).alloc (nR_ _) _⟩)
   all_goals (clear J;first|(simp_all [CL,wa0,wk3];done) | (simp[CL,wa0,wk3,D];omega))
  have G:s.toList.isEmpty=false:=by simpa using D
  go_wp2;go_ret;refine⟨za4 ?_,(Below.refl _ _).alloc (nR_ _) _⟩;simp[CL,wa0,D]
def DZ(st:List AW)(g:Bool)(d:Int)(k:Nat):Bool :=
 decide (0<=d-1)&&decide (d-1<=st.length) && !CS (st.drop (d-1).toNat)&&DA st g (d-1).toNat (BK k)
def yD0(b:Nat)(d X op a:Int)(k:Nat)(s:ByteArray)(st:List AW)(g:Bool)(w:World)(b4 : -9223372036854775808<=d)(a9:d<=9223372036854775807)(a6:st.length<=24)(I:k<16)
  (W:∀h∈st,h.1<16/\(h.1=9\/h.2<=3)) (D:BE w) (K:CR w b st g) (o:DZ st g d k=false) :
  Calls Tryz.prog 156 #[pA b 0,.agg #[nI d,nI k,.string s,nI X,nI op,nI a]] w λe w'=>e=.returned (.bool false)/\Below w.heap.size w w':=by
 have b3:=K.lt;have c0:=K.depth;have b2:¬b=w.heap.size:=oM;have b0:(st.length:Int)<=24:=oM;by_cases h0:d = -9223372036854775808
 ·subst h0
  clear D K o W;go_enter Tryz.func156,Tryz.ntmps156;have Z:wrap64 (-9223372036854775809)=9223372036854775807:=by unfold wrap64;omega
  have G:(st.length:Int)<9223372036854775807:=oM;go_wp2;go_ret;exact⟨rfl,(Below.refl _ _).alloc (nR_ _) _⟩
 have a1 : -9223372036854775808<=d-1:=oM;by_cases h1:d-1<0
 ·clear D K o W
  go_enter Tryz.func156,Tryz.ntmps156;go_wp2_with fail;go_ret;exact⟨rfl,(Below.refl _ _).alloc (nR_ _) _⟩
 have L:0<=d-1:=oM;by_cases h2:(st.length:Int)<d-1
 ·clear D K o W
  go_enter Tryz.func156,Tryz.ntmps156;go_wp2_with fail;go_ret;exact⟨rfl,(Below.refl _ _).alloc (nR_ _) _⟩
 obtain⟨n,hn⟩:=eG L;have a3:d=n+1:=oM;subst a3;have G:n<=st.length:=oM;have e1:((n:Int)+1-1)=n:=oM;have Y:Below w.heap.size w (w.alloc (.cells #[nI ((n:Int)+1),nI k,.string s,nI X,nI op,nI a] 53)):=(Below.refl _ _).alloc (nR_ _) _;have b6:=D.sort k I;have a5:¬0=w.heap.size:=oH D.lt
 have a2:¬w.heap.size=0:=oH D.lt
 have R:Hi _:=D.below Y;have O:Hi _:=K.below Y;have HB:Hi _:=Y;have HK:Hi _:=W;have a4:(n:Int)<=st.length:=oM;unfold DZ at o;rw[e1,aO,aV (by omega:(0:Int)<=n),aV a4]at o;have J:Hi _:=o;clear o Y D K W h1 h2 hn h0 a1 L;have b7:decide ((n:Int)<0)=false:=dF_ oM;have b9:decide (st.length<n)=false:=dF_ oM;go_enter Tryz.func156,Tryz.ntmps156;go_wp2_with fail;refine mq (zj3 b n st g _ G oM (λh hm=>(HK.o h hm).1) R.o O.o) λw1 D=>?_;obtain⟨K,L⟩:=wa6 D;have a8:=λo=>K w.heap.size o sI;have a7:=λo=>K b o (by simp;omega);have b8:=λo=>L w.heap.size o sI;have b1:=λo=>L b o (by simp;omega);clear K L;have K:Hi _:=R.o.below D;have Y:Hi _:=O.o.below D;have b5:w.heap.size+1<=w1.heap.size:=by have:=D.size;simp at this;omega
 have L:Hi (Below w.heap.size w w1):=HB.o.trans (D.mono sI);clear D;have D:=J.o;cases Z:CS (st.drop n)
 ·rw[Z]at D
  replace D:DA st g n (BK k)=false:=by simpa using D
  have c9:=K.o.sort k I;clear Z J;go_wp2_with fail;refine mq (zs6 b n _ st g _ G oM HK.o K.o Y.o) λw2 W=>?_;rw[D];clear D;go_wp2_with fail;go_ret;exact⟨rfl,L.o.trans (W.mono oM)⟩
 clear Z D J;go_wp2_with fail;go_ret;exact⟨rfl,L.o⟩
structure AB(b:Nat)(w w':World):Prop where
 low:Below 0 w w'
 block:∀q,q≠b->q<w.heap.size->w'.heap[q]?=w.heap[q]?
def AB.of{w':World}(h:Below w.heap.size w w'):AB b w w':=⟨h.mono (zL_ _),λq _ d=>h.block q d⟩
def AB.set(h:AB b w w1)(o:Nat)(v:Value):AB b w (w1.setCell (aD b o) v) :=
 ⟨h.low.setCell (zL_ _) v,λq d D=>(Below.heap_setCell w1 ⟨b,o,none⟩ v q d).trans (h.block q d D)⟩
def AB.drew(h:AB b w w1):AB b w w1.drew:=⟨h.low.drew,h.block⟩
def AB.cell(h:AB b w w1){q o:Nat}(D:q≠b)(d:q<w.heap.size):w1.cell? (aD q o)=w.cell? (aD q o):=World.cell?_of_block (w:=w) (h.block q D d)
def AB.below{w0:World}(d:Below B w0 w)(h:AB b w w1)(o:B<=b)(D:B<=w.heap.size):Below B w0 w1 :=
 d.trans ⟨h.low.os,h.low.tape,h.low.output,h.low.size,λk G=>h.block k oM oM⟩
def cs(w:World)(b o d:Nat)(v u:Value)(h:w.cell? (aD b o)=some u):(w.setCell (aD b o) v).cell? ⟨b,d,none⟩=if d=o then some v else w.cell? ⟨b,d,none⟩:=by
 by_cases e:d=o
 ·subst e;rw[aG rfl];exact World.cell?_setCell_same _ _ _ h
 rw[aC e];refine World.cell?_setCell_other _ _ _ _ (λD=>e ?_)
 injection D with _ h2 _;exact h2.symm
def AO(st:List AW)(n k:Nat):List AW :=
 if n=0 then [(k,0)] else st.take (n-1)++[((st.getD (n-1) (0,0)).1,(st.getD (n-1) (0,0)).2+1),(k,0)]
def cs4{o1 o2 o3 o4:Nat}{u1 u2 u3 u4:Value}(o D G I:Value)(R:w.cell? (aD b o1)=some u1)(Z:w.cell? (aD b o2)=some u2)(L:w.cell? (aD b o3)=some u3)(J:w.cell? (aD b o4)=some u4)(d:Nat) :
  ((((w.setCell (aD b o1) o).setCell (aD b o2) D).setCell (aD b o3) G).setCell (aD b o4) I).cell? ⟨b,d,none⟩ =
   if d=o4 then some I else if d=o3 then some G else if d=o2 then some D else if d=o1 then some o else w.cell? ⟨b,d,none⟩:=by
 obtain⟨x2,O⟩:=cell?_setCell_some (p:=⟨b,o1,none⟩) (x:=o) Z;obtain⟨x3,K⟩:=cell?_setCell_some (p:=⟨b,o1,none⟩) (x:=o) L;obtain⟨x4,s4⟩:=cell?_setCell_some (p:=⟨b,o1,none⟩) (x:=o) J;obtain⟨y3,X⟩:=cell?_setCell_some (p:=⟨b,o2,none⟩) (x:=D) K;obtain⟨y4,W⟩:=cell?_setCell_some (p:=⟨b,o2,none⟩) (x:=D) s4;obtain⟨z4,Y⟩:=cell?_setCell_some (p:=⟨b,o3,none⟩) (x:=G) W;rw[cs _ b o4 d I _ Y,cs _ b o3 d G _ X,cs _ b o2 d D _ O,cs _ b o1 d o _ R]
def ya2(st:List AW)(m k:Nat)(d:m<st.length):(AO st (m+1) k).length=m+2:=by unfold AO;rw[aC oM,aA,bH];simp;omega
def wp9(st:List AW)(m k i:Nat)(o:m<st.length)(d:i<m)(h:i<(AO st (m+1) k).length):(AO st (m+1) k)[i]=st[i]:=by unfold AO at *;simp only[aC (by omega:¬m+1=0),dA];rw[bU (by rw[bH];omega),eQ]
def ya3(st:List AW)(m k:Nat)(d:m<st.length)(h:m<(AO st (m+1) k).length):(AO st (m+1) k)[m]=(st[m].1,st[m].2+1):=by unfold AO at *;simp only[aC (by omega:¬m+1=0),dA];rw[gU (by rw[bH];omega)];simp[bH,Nat.min_eq_left (dL d),aJ d]
def ya4(st:List AW)(m k:Nat)(d:m<st.length)(h:m+1<(AO st (m+1) k).length):(AO st (m+1) k)[m+1]=(k,0):=by unfold AO at *;simp only[aC (by omega:¬m+1=0),dA];rw[gU (by rw[bH];omega)];simp[bH,Nat.min_eq_left (dL d)]
def ym8(hP:CR w b st g)(m k:Nat)(D:m<st.length)(W:st.length<=24) :
  CR ((((w.setCell ⟨b,m*2+1,none⟩ (nI ((st[m].2:Int)+1))).setCell ⟨b,(m+1)*2,none⟩ (nI k)).setCell ⟨b,(m+1)*2+1,none⟩ (nI 0)).setCell (aD b 50) (nI ((m:Int)+1+1))) b (AO st (m+1) k) g:=by
 obtain⟨O,I⟩:=hP.room (m*2+1) oM;obtain⟨Y,K⟩:=hP.room ((m+1)*2) oM;obtain⟨R,L⟩:=hP.room ((m+1)*2+1) oM;obtain⟨X,J⟩:=hP.room 50 oM;have d:=cs4 (nI ((st[m].2:Int)+1)) (nI k) (nI 0) (nI ((m:Int)+1+1)) I K L J;have G:=ya2 st m k D;constructor
 ·simpa using hP.lt
 ·omega
 ·rw[d,aG rfl,G];congr 2
 ·rw[d,aC oM,aC oM,aC oM,aC oM];exact hP.begun
 ·intro i o
  rcases(show i<m\/i=m\/i=m+1 by omega) with h | rfl | rfl
  ·rw[d,aC oM,aC oM,aC oM,aC oM,wp9 st m k i D h o];exact hP.kind i oM
  ·rw[d,aC oM,aC oM,aC oM,aC oM,ya3 st i k D o];exact hP.kind i D
  rw[d,aC oM,aC oM,aG rfl,ya4 st m k D o]
 ·intro i o
  rcases(show i<m\/i=m\/i=m+1 by omega) with h | rfl | rfl
  ·rw[d,aC oM,aC oM,aC oM,aC oM,wp9 st m k i D h o];exact hP.held i oM
  ·rw[d,aC oM,aC oM,aC oM,aG rfl,ya3 st i k D o];congr 2
  rw[d,aC oM,aG rfl,ya4 st m k D o];rfl
 ·intro i o
  rw[d]
  repeat' split
  all_goals first | exact⟨_,rfl⟩ | exact hP.room i o
 intro i;simpa using hP.warm i
def ym9{g':Bool}(o:CR w b st g)(k:Nat) :
  CR ((((w.setCell (aD b 51) (.bool g')).setCell (aD b 0) (nI k)).setCell (aD b 1) (nI 0)).setCell (aD b 50) (nI 1)) b (AO st 0 k) g':=by
 obtain⟨L,G⟩:=o.room 51 oM;obtain⟨W,J⟩:=o.room 0 oM;obtain⟨O,K⟩:=o.room 1 oM;obtain⟨R,I⟩:=o.room 50 oM;have d:=cs4 (.bool g') (nI k) (nI 0) (nI 1) G J K I;constructor
 ·simpa using o.lt
 ·simp[AO]
 ·rw[d,aG rfl];rfl
 ·rw[d,aC oM,aC oM,aC oM,aG rfl]
 ·intro i D
  have e:i=0:=by simp[AO]at D;omega
  subst e;rw[d,aC oM,aC oM,aG rfl];rfl
 ·intro i D
  have e:i=0:=by simp[AO]at D;omega
  subst e;rw[d,aC oM,aG rfl];rfl
 ·intro i D
  rw[d]
  repeat' split
  all_goals first | exact⟨_,rfl⟩ | exact o.room i D
 intro i;simpa using o.warm i
def yx5(b n:Nat)(X op a:Int)(k:Nat)(s:ByteArray)(st:List AW)(g:Bool)(w:World)(R:st.length<=24)(I:k<16)(G:n<=st.length)
  (Y:∀h∈st,h.1<16/\(h.1=9\/h.2<=3)) (d:∀h∈st,h.2<=400) (o:BE w) (J:CR w b st g) (K:CS (st.drop n)=false) (W:DA st g n (BK k)=true) (b8:0<n) :
  Calls Tryz.prog 156 #[pA b 0,.agg #[nI ((n:Int)+1),nI k,.string s,nI X,nI op,nI a]] w λe w'=>e=.returned (.bool true)/\AB b w w'/\CR w' b (AO st n k) g:=by
 have b0:=J.lt;have c0:=J.depth;have a2:¬b=w.heap.size:=oM;have a8:(st.length:Int)<=24:=oM;have D:Below w.heap.size w (w.alloc (.cells #[nI ((n:Int)+1),nI k,.string s,nI X,nI op,nI a] 53)):=(Below.refl _ _).alloc (nR_ _) _;have b4:=o.sort k I;have a7:¬0=w.heap.size:=oH o.lt
 have a3:¬w.heap.size=0:=oH o.lt
 have O:Hi _:=o.below D;have L:Hi _:=J.below D;have HB:Hi _:=D;have HK:Hi _:=Y;have HD:Hi _:=d;have HW:Hi _:=K;have HT:Hi _:=W;have b6:(n:Int)<=st.length:=oM;clear D o J Y K W d;have b5:decide ((n:Int)<0)=false:=dF_ oM;have b9:decide (st.length<n)=false:=dF_ oM;go_enter Tryz.func156,Tryz.ntmps156;go_wp2_with fail;refine mq (zj3 b n st g _ G oM (λh hm=>(HK.o h hm).1) O.o L.o) λw1 d=>?_;rw[HW.o];obtain⟨D,K⟩:=wa6 d;have J:=λo=>D w.heap.size o sI;have Z:=λo=>D b o (by simp;omega);have a6:=λo=>K w.heap.size o sI;have a1:=λo=>K b o (by simp;omega);clear D K;have K:Hi _:=O.o.below d;have W:Hi _:=L.o.below d;have b2:w.heap.size+1<=w1.heap.size:=by have:=d.size;simp at this;omega
 have a5:Hi (Below w.heap.size w w1):=HB.o.trans (d.mono sI);have c9:=K.o.sort k I;clear d;go_wp2_with fail;refine mq (zs6 b n _ st g _ G oM HK.o K.o W.o) λY d=>?_;rw[HT.o];have a4:Hi (Below w.heap.size w Y):=a5.o.trans (d.mono oM);have D:Hi _:=W.o.below d;have a9:Hi _:=K.o.below d;have d0:Y.cell? (aD w.heap.size 0)=some (nI ((n:Int)+1)):=by rw[(wa6 d).1 _ _ oM,J _];simp[go_sem]
 have d1:Y.cell? (aD w.heap.size 1)=some (nI k):=by rw[(wa6 d).1 _ _ oM,J _];simp[go_sem]
 have b7:w1.heap.size<=Y.heap.size:=d.size;clear d J Z a6 a1 c9;have J:n-1<st.length:=oM;have e1:=D.o.held (n-1) J;have d:st[n-1].2<=400:=HD.o _ (cB _);have b1:=D.o.warm;obtain⟨m,rfl⟩:∃m,n=m+1:=⟨n-1,oM⟩;simp only[dA]at e1 d;have HF:Hi _:=ym8 D.o m k oM R;generalize st[m].2=hd at *;go_wp2_with fail
 go_region
 obtain⟨v0,g0⟩:=D.o.room ((m+1)*2) oM;obtain⟨v1,g1⟩:=D.o.room ((m+1)*2+1) oM;obtain⟨v2,g2⟩:=D.o.room 50 oM;have b3:¬b=w.heap.size:=a2;have Z:¬w.heap.size=b:=oM;have o1:¬m*2+1=(m+1)*2:=oM;go_wp2_with fail
 go_region
 go_wp2_with fail;go_ret;refine⟨rfl,?_,?_⟩
 ·refine AB.drew (AB.drew (AB.set (AB.set (AB.set (AB.set (AB.of a4.o) _ _) _ _) _ _) _ _))
 exact HF.o.below ((Below.refl _ _).drew.drew)
def yx6(b:Nat)(X op a:Int)(k:Nat)(s:ByteArray)(st:List AW)(g:Bool)(w:World)(a6:st.length<=24)(G:k<16)
  (O:∀h∈st,h.1<16/\(h.1=9\/h.2<=3)) (d:BE w) (D:CR w b st g) (I:CS st=false) (J:DA st g 0 (BK k)=true) :
  Calls Tryz.prog 156 #[pA b 0,.agg #[nI 1,nI k,.string s,nI X,nI op,nI a]] w λe w'=>e=.returned (.bool true)/\AB b w w'/\CR w' b (AO st 0 k) (g||BK k==2):=by
 have a9:=D.lt;have c0:=D.depth;have a8:¬b=w.heap.size:=oM;have a7:(st.length:Int)<=24:=oM;have o:Below w.heap.size w (w.alloc (.cells #[nI 1,nI k,.string s,nI X,nI op,nI a] 53)):=(Below.refl _ _).alloc (nR_ _) _;have b2:=d.sort k G;have a5:¬0=w.heap.size:=oH d.lt
 have a2:¬w.heap.size=0:=oH d.lt
 have L:Hi _:=d.below o;have K:Hi _:=D.below o;have HB:Hi _:=o;have HK:Hi _:=O;have HW:Hi _:=I;have HT:Hi _:=J;have b3:(0:Int)<=st.length:=oM;clear o d D O I J;go_enter Tryz.func156,Tryz.ntmps156;go_wp2_with fail;refine mq (zj3 b 0 st g _ oM oM (λh hm=>(HK.o h hm).1) L.o K.o) λw1 d=>?_;rw[bB,HW.o];obtain⟨D,J⟩:=wa6 d;have I:=λo=>D w.heap.size o sI;have Y:=λo=>D b o (by simp;omega);have a4:=λo=>J w.heap.size o sI;have a1:=λo=>J b o (by simp;omega);clear D J;have J:Hi _:=L.o.below d;have W:Hi _:=K.o.below d;have b0:w.heap.size+1<=w1.heap.size:=by have:=d.size;simp at this;omega
 have a3:Hi (Below w.heap.size w w1):=HB.o.trans (d.mono sI);have c9:=J.o.sort k G;clear d;go_wp2_with fail;refine mq (zs6 b 0 _ st g _ oM oM HK.o J.o W.o) λR d=>?_;rw[HT.o];have O:Hi (Below w.heap.size w R):=a3.o.trans (d.mono oM);have D:Hi _:=W.o.below d;have Z:Hi _:=J.o.below d;have d0:R.cell? (aD w.heap.size 0)=some (nI 1):=by rw[(wa6 d).1 _ _ oM,I _];simp[go_sem]
 have d1:R.cell? (aD w.heap.size 1)=some (nI k):=by rw[(wa6 d).1 _ _ oM,I _];simp[go_sem]
 have b4:w1.heap.size<=R.heap.size:=d.size;clear d I Y a4 a1 c9;have b1:=D.o.warm;have e1:=D.o.begun;have e2:=Z.o.sort k G;obtain⟨v0,g0⟩:=D.o.room 0 oM;obtain⟨v1,g1⟩:=D.o.room 1 oM;obtain⟨v2,g2⟩:=D.o.room 50 oM;have Y:¬w.heap.size=b:=oM;have d:Hi (∀I,CR ((((R.setCell (aD b 51) (.bool I)).setCell (aD b 0) (nI k)).setCell (aD b 1) (nI 0)).setCell (aD b 50) (nI 1)) b (AO st 0 k) I):=λI=>ym9 D.o k;have b5:decide ((st.length:Int)<0)=false:=dF_ oM;cases g
 ·cases hs:(BK k==2)
  all_goals
   go_wp2_with fail
   go_region
   go_wp2_with fail;go_ret;refine⟨rfl,AB.drew (AB.set (AB.set (AB.set (AB.set (AB.of O.o) _ _) _ _) _ _) _ _),?_⟩;rw[dI,hs];exact(d.o _).below ((Below.refl _ _).drew)
 go_wp2_with fail
 go_region
 go_wp2_with fail;go_ret;refine⟨rfl,AB.drew (AB.set (AB.set (AB.set (AB.set (AB.of O.o) _ _) _ _) _ _) _ _),?_⟩;exact(d.o _).below ((Below.refl _ _).drew)
structure Nd.Ok(n:Nd):Prop where
 name:n.name.size<=maxLen
 lo : -9223372036854775808<=n.depth
 hi:n.depth<=9223372036854775807
 num:n.num<=9223372036854775807
structure AV(w:World)(b o:Nat)(ns:List Nd):Prop where
 lt:b<w.heap.size
 c0:∀(i:Nat) (h:i<ns.length),w.cell? ⟨b,o+i*6,none⟩=some (nI ns[i].depth)
 c1:∀(i:Nat) (h:i<ns.length),w.cell? ⟨b,o+i*6+1,none⟩=some (nI ns[i].kind)
 c2:∀(i:Nat) (h:i<ns.length),w.cell? ⟨b,o+i*6+2,none⟩=some (.string ns[i].name)
 c3:∀(i:Nat) (h:i<ns.length),w.cell? ⟨b,o+i*6+3,none⟩=some (nI ns[i].num)
 c4:∀(i:Nat) (h:i<ns.length),w.cell? ⟨b,o+i*6+4,none⟩=some (nI ns[i].op)
 c5:∀(i:Nat) (h:i<ns.length),w.cell? ⟨b,o+i*6+5,none⟩=some (nI ns[i].pos)
def AV.below{o:Nat}{ns:List Nd}(h:AV w b o ns)(G:Below w.heap.size w w1):AV w1 b o ns:=by have D:∀o,w1.cell? (aD b o)=w.cell? (aD b o):=λo=>G.cell (p:=⟨b,o,none⟩) h.lt;have I:=G.size;have:=h.lt;exact⟨oM,λi d=>by rw[D];exact h.c0 i d,λi d=>by rw[D];exact h.c1 i d,λi d=>by rw[D];exact h.c2 i d,λi d=>by rw[D];exact h.c3 i d,λi d=>by rw[D];exact h.c4 i d,λi d=>by rw[D];exact h.c5 i d⟩
def ES(n:Nd):Bool:=decide (0<=n.kind)&&decide (n.kind<=15)&&wh1 n.kind.toNat n.name.toList n.num n.op
def DW(g:Bool)(n:Nd):Bool:=if n.depth=1 then g||BK n.kind.toNat==2 else g
def FD:List Nd->Nat->List AW->Bool->Int×Int
 | [],i,st,_=>if CS st then (33,i) else (0,0)
 | n::ns,i,st,g =>
  if ES n=false then (33,i) else if DZ st g n.depth n.kind.toNat=false then (33,i) else if 24<n.depth then (31,i)
  else FD ns (i+1) (AO st (n.depth-1).toNat n.kind.toNat) (DW g n)
def wh8(n:Nd)(rest:List Nd)(i:Nat)(st:List AW)(g:Bool):Int×Int :=
 if ES n=false then (33,i) else if DZ st g n.depth n.kind.toNat=false then (33,i) else if 24<n.depth then (31,i)
 else FD rest (i+1) (AO st (n.depth-1).toNat n.kind.toNat) (DW g n)
def ya5(ns:List Nd)(i:Nat)(st:List AW)(g:Bool)(h:i<ns.length):FD (ns.drop i) i st g=wh8 ns[i] (ns.drop (i+1)) i st g:=by rw[aP h];rfl
def BL(ns:List Nd):Int×Int:=if 300<ns.length then (32,300) else FD ns 0 [] false
def Nat.toInt{k:Int}(h:0<=k):k=(k.toNat:Int):=(dU h).symm
def yn0(n:Nd)(w:World)(d:n.Ok)(o:BE w) :
  Calls Tryz.prog 155 #[.agg #[nI n.depth,nI n.kind,.string n.name,nI n.num,nI n.op,nI n.pos]] w λe w'=>e=.returned (.bool (ES n))/\Below w.heap.size w w':=by
 by_cases h:n.kind<0\/15<n.kind
 ·have e:ES n=false:=by
   unfold ES;rcases h with h | h
   ·rw[aN oM];rfl
   rw[aN (by omega:¬n.kind<=15)];simp
  rw[e];exact yx3 _ _ _ _ _ _ _ h
 have e:ES n=wh1 n.kind.toNat n.name.toList n.num n.op:=by unfold ES;rw[aV (by omega:0<=n.kind),aV (by omega:n.kind<=15)];rfl
 rw[e];have D:n.kind=(n.kind.toNat:Int):=Nat.toInt oM;have:=yx4 n.depth n.num n.op n.pos n.kind.toNat n.name w oM d.name o;rw[<-D]at this;exact this
def zi0{n:Nd}(h:ES n=true):0<=n.kind/\n.kind<=15:=by unfold ES at h;simp at h;exact⟨h.1.1,h.1.2⟩
def yx7(b:Nat)(n:Nd)(st:List AW)(g:Bool)(w:World)(D:n.Ok)(K:ES n=true)(I:st.length<=24)(L:∀h∈st,h.1<16/\(h.1=9\/h.2<=3))(G:BE w)(J:CR w b st g)(d:DZ st g n.depth n.kind.toNat=false) :
  Calls Tryz.prog 156 #[pA b 0,.agg #[nI n.depth,nI n.kind,.string n.name,nI n.num,nI n.op,nI n.pos]] w λe w'=>e=.returned (.bool false)/\Below w.heap.size w w':=by
 obtain⟨O,R⟩:=zi0 K;have o:n.kind=(n.kind.toNat:Int):=Nat.toInt oM;have:=yD0 b n.depth n.num n.op n.pos n.kind.toNat n.name st g w D.lo D.hi I oM L G J d;rw[<-o]at this;exact this
def yn1(b:Nat)(n:Nd)(st:List AW)(g:Bool)(w:World)(X:ES n=true)(O:st.length<=24)(R:∀h∈st,h.1<16/\(h.1=9\/h.2<=3))(Y:∀h∈st,h.2<=400)(K:BE w)(L:CR w b st g)(d:DZ st g n.depth n.kind.toNat=true) :
  Calls Tryz.prog 156 #[pA b 0,.agg #[nI n.depth,nI n.kind,.string n.name,nI n.num,nI n.op,nI n.pos]] w λe w'=>e=.returned (.bool true)/\AB b w w'/\CR w' b (AO st (n.depth-1).toNat n.kind.toNat) (DW g n):=by
 obtain⟨Z,k1⟩:=zi0 X;have o:n.kind=(n.kind.toNat:Int):=Nat.toInt oM;unfold DZ at d;simp only[bM,bV,fK]at d;obtain⟨⟨⟨a1,a2⟩,D⟩,I⟩:=d;have G:n.depth=((n.depth-1).toNat:Int)+1:=oM;by_cases W:(n.depth-1).toNat=0
 ·have J:n.depth=1:=oM
  rw[W]at D I ⊢;rw[bB]at D;have e:DW g n=(g||BK n.kind.toNat==2):=by unfold DW;rw[aG J]
  have:=yx6 b n.num n.op n.pos n.kind.toNat n.name st g w O oM R K L D I;rw[<-o,<-J,<-e]at this;rw[J]at this ⊢;exact this
 have e:DW g n=g:=by unfold DW;rw[aC oM]
 have:=yx5 b (n.depth-1).toNat n.num n.op n.pos n.kind.toNat n.name st g w O oM oM R Y K L D I oM;rw[<-o,<-G]at this;rw[e];exact this
def zE3(h:k<16):1<=BK k:=by
 have:∀j:Fin 16,1<=BK j:=by decide
 exact this ⟨k,h⟩
def wk4(i:Nat)(h:AW):Prop:=h.1<16/\(h.1=9\/h.2<=3)/\h.2<=i
def yn2{d:Int}{i:Nat}(I:k<16)(h:∀x∈st,wk4 i x)(o:DZ st g d k=true):∀x∈AO st (d-1).toNat k,wk4 (i+1) x:=by
 unfold DZ at o;simp only[bM,bV,fK]at o;obtain⟨⟨⟨X,R⟩,Y⟩,G⟩:=o;generalize W:(d-1).toNat=n at *;have L:n<=st.length:=oM;intro x hx;unfold AO at hx;by_cases D:n=0
 ·rw[aG D]at hx
  simp at hx;subst hx;exact⟨I,Or.inr (by simp),by simp⟩
 rw[aC D]at hx;have O:n-1<st.length:=oM;have e:st.getD (n-1) (0,0)=st[n-1]:=by rw[bT,aJ O];rfl
 rw[e]at hx;unfold DA at G;rw[aC D,e,bZ]at G;have J:=h st[n-1] (cB _);rcases bA.1 hx with hx | hx
 ·have:=h x (dR hx)
  exact⟨this.1,this.2.1,oH this.2.2⟩
 simp only[bJ,dE,fL]at hx;rcases hx with rfl | rfl
 ·refine⟨J.1,?_,by have:=J.2.2;simp;omega⟩
  by_cases K:st[n-1].1=9
  ·exact Or.inl K
  refine Or.inr ?_;have o:=zE3 I;rw[<-G]at o;unfold DB at o;rw[aC K]at o;show st[n-1].2+1<=3
  split at o<;>rename_i q0
  ·omega
  split at o<;>rename_i q1
  ·omega
  split at o<;>rename_i q2
  ·omega
  omega
 exact⟨I,Or.inr (by simp),by simp⟩
def yx8{d:Int}(o:DZ st g d k=true)(J:d<=24):(AO st (d-1).toNat k).length<=24:=by
 unfold DZ at o;simp only[bM,bV,fK]at o;obtain⟨⟨⟨G,D⟩,K⟩,I⟩:=o;unfold AO
 split
 ·simp
 rw[aA,bH];simp;omega
def FU{a b a' b':Int}(d:a=a')(o:b=b'):Ending.returned (.tuple #[nI a,nI b])=.returned (.tuple #[nI a',nI b']):=by rw[d,o]
def wf2:Array Value:=#[nI 0,nI 0,nI 0,nI 0,nI 0,nI 0,nI 0,nI 0,nI 0,nI 0,nI 0,nI 0,nI 0,nI 0,nI 0,nI 0,nI 0,nI 0,nI 0,nI 0,nI 0,nI 0,nI 0,nI 0,nI 0,nI 0,nI 0,nI 0,nI 0,nI 0,nI 0,nI 0,nI 0,nI 0,nI 0,nI 0,nI 0,nI 0,nI 0,nI 0,nI 0,nI 0,nI 0,nI 0,nI 0,nI 0,nI 0,nI 0,nI 0,nI 0,nI 0,.bool false]
def zP4(w:World):CR (w.alloc (.cells wf2 252)) w.heap.size [] false:=by have d:∀i,(w.alloc (.cells wf2 252)).cell? (aD w.heap.size i)=wf2[i]?:=λi=>World.cell?_alloc_at _ _ _ _ rfl;refine⟨by simp,by simp,by rw[d];rfl,by rw[d];rfl,λi h=>absurd h (by simp),λi h=>absurd h (by simp),λi h=>?_,λi=>World.frozen?_alloc_at _ _ _ _ rfl⟩;rw[d];exact⟨_,gN (show i<wf2.size from h)⟩
def ya6(b o cap:Nat)(ns:List Nd)(w:World)(d:∀n∈ns,n.Ok)(I:BE w)(G:AV w b o ns)(b6:ns.length<=cap)(b5:cap<=maxLen) :
  Calls Tryz.prog 121 #[.slice (sA b o) ns.length cap] w λe w'=>e=.returned (.tuple #[nI (BL ns).1,nI (BL ns).2])/\Below w.heap.size w w':=by
 have hl:ns.length<=maxLen:=oM;unfold maxLen at hl;by_cases D:300<(ns.length:Int)
 ·have K:Hi (BL ns=(32,300)):=by unfold Hi BL;rw[aG oM]
  clear d I G;go_enter Tryz.func121,Tryz.ntmps121;go_wp2
  go_ret2
  exact⟨FU (by rw[K.o]) (by rw[K.o]),Below.refl _ _⟩
 have K:Hi (BL ns=FD ns 0 [] false):=by unfold Hi BL;rw[aC oM]
 have b1:(ns.length:Int)<=300:=oM;have b7:=G.lt;have HN:Hi _:=G;have HR:Hi _:=I;have HO:Hi _:=d;clear d I G D;go_enter Tryz.func121,Tryz.ntmps121;go_wp2_with fail;go_loopw [12] (λt wr=>∃(i:Nat) (st:List AW) (g:Bool),i<=ns.length/\t=nI i/\Hi (FD ns 0 [] false=FD (ns.drop i) i st g)/\Hi (Below w.heap.size w wr)/\Hi (CR wr w.heap.size st g)/\st.length<=24/\Hi (∀h∈st,wk4 i h)) (λt _=>ns.length-(intOf t).toNat)
 case atStart=>exact⟨0,[],false,oM,rfl,rfl,(Below.refl _ _).alloc (aK _) _,zP4 w,by simp,λh hh=>absurd hh (by simp)⟩
 obtain⟨i,st,g,hi,rfl,hr,HB,HP,Z,HK⟩:=hrel;have hz:=HB.o.size;by_cases G:i<ns.length
 ·have D:=HN.o.below HB.o
  have R:=HR.o.below HB.o;have c0:=D.c0 i G;have c1:=D.c1 i G;have c2:=D.c2 i G;have c3:=D.c3 i G;have c4:=D.c4 i G;have c5:=D.c5 i G;have a8:Hi _:=HO.o ns[i] (cB _)
  have d:Hi (FD ns 0 [] false=wh8 ns[i] (ns.drop (i+1)) i st g):=by unfold Hi;rw[hr.o,ya5 ns i st g G]
  have X:Hi _:=R;clear hr D R;generalize ns[i]=nd at *;have b8:¬b=wr.heap.size:=oM;have b4:¬wr.heap.size=w.heap.size:=oH HP.o.lt
  have b9:=HP.o.lt;go_wp2_with fail;have D:Below wr.heap.size wr (wr.alloc (.cells #[nI nd.depth,nI nd.kind,.string nd.name,nI nd.num,nI nd.op,nI nd.pos] 53)):=(Below.refl _ _).alloc (nR_ _) _;have a3:Hi _:=D;clear D;refine mq (yn0 nd _ a8.o (X.o.below a3.o)) λw1 D=>?_;have O:Hi (Below wr.heap.size wr w1):=a3.o.trans (D.mono sI);cases W:ES nd
  ·have I:Hi (FD ns 0 [] false=(33,(i:Int))):=by
    unfold Hi;rw[d.o];unfold wh8;rw[aG W]
   clear D;go_wp2_with fail
   go_ret2
   exact⟨FU (by rw[K.o,I.o]) (by rw[K.o,I.o]),HB.o.trans (O.o.mono hz)⟩
  obtain⟨a2,b0⟩:=wa6 D;have c6:wr.heap.size+1<=w1.heap.size:=by have:=D.size;simp at this;omega
  have a4:Hi _:=X.o.below O.o;have a5:Hi _:=HP.o.below O.o;have a7:Hi (∀h∈st,h.1<16/\(h.1=9\/h.2<=3)):=λh hh=>⟨(HK.o h hh).1,(HK.o h hh).2.1⟩;have b2:Hi (∀h∈st,h.2<=400):=λh hh=>by have:=(HK.o h hh).2.2;omega
  clear D;go_wp2_with fail;cases Y:DZ st g nd.depth nd.kind.toNat
  ·have I:Hi (FD ns 0 [] false=(33,(i:Int))):=by
    unfold Hi;rw[d.o];unfold wh8;rw[aC (by rw[W];simp),aG Y]
   refine mq (yx7 _ nd st g _ a8.o W Z a7.o a4.o a5.o Y) λw2 J=>?_;go_wp2_with fail
   go_ret2
   exact⟨FU (by rw[K.o,I.o]) (by rw[K.o,I.o]),(HB.o.trans (O.o.mono hz)).trans (J.mono oM)⟩
  refine mq (yn1 _ nd st g _ W Z a7.o b2.o a4.o a5.o Y) λw2 ⟨J,a9⟩=>?_;have c7:=J.low.size;have d0:w2.cell? (aD wr.heap.size 0)=some (nI nd.depth):=by rw[J.cell b4 oM,a2 _ _ (by simp)];simp[go_sem]
  have L:Hi (Below w.heap.size w w2):=J.below (HB.o.trans (O.o.mono hz)) (nR_ _) oM;have b3:Hi _:=a9;clear J a9 a2 b0;by_cases J:24<nd.depth
  ·have I:Hi (FD ns 0 [] false=(31,(i:Int))):=by
    unfold Hi;rw[d.o];unfold wh8;rw[aC (by rw[W];simp),aC (by rw[Y];simp),aG J]
   go_wp2_with fail
   go_ret2
   exact⟨FU (by rw[K.o,I.o]) (by rw[K.o,I.o]),L.o⟩
  have I:Hi (FD ns 0 [] false=FD (ns.drop (i+1)) (i+1) (AO st (nd.depth-1).toNat nd.kind.toNat) (DW g nd)):=by unfold Hi;rw[d.o];unfold wh8;rw[aC (by rw[W];simp),aC (by rw[Y];simp),aC J]
  have a1:nd.depth<=24:=oM;have a6:=zi0 W;have HL:Hi _:=yx8 Y a1;have HH:Hi _:=yn2 oM HK.o Y;clear W Y J a6;go_wp2_with fail;go_roundw
  case rel=>exact⟨i+1,_,_,oM,by go_num,I,L,b3,HL.o,HH⟩
  case measure=>simp[intOf];omega
 have J:ns.length<=i:=oM
 have I:Hi (FD ns 0 [] false=if CS st then (33,(i:Int)) else (0,0)):=by unfold Hi;rw[hr.o,aU J];rfl
 have R:Hi _:=HR.o.below HB.o;have O:i=ns.length:=oM;clear hr;go_wp2_with fail;refine mq (zj3 _ 0 st g _ oM oM (λh hh=>(HK.o h hh).1) R.o HP.o) λw1 D=>?_;rw[bB];have L:=hid (HB.o.trans (D.mono hz));clear D;cases D:CS st
 ·have d:Hi (FD ns 0 [] false=(0,0)):=by unfold Hi;rw[I.o,D];rfl
  go_wp2_with fail
  go_ret2
  exact⟨FU (by rw[K.o,d.o]) (by rw[K.o,d.o]),L.o⟩
 have d:Hi (FD ns 0 [] false=(33,(ns.length:Int))):=by unfold Hi;rw[I.o,D,<-O];rfl
 go_wp2_with fail
 go_ret2
 exact⟨FU (by rw[K.o,d.o]) (by rw[K.o,d.o]),L.o⟩
def CU:Nat->List AW->List Value
 | _,[]=>[]
 | j,h::t=>nI ((j:Int)+1)::nI h.1::nI h.2::CU (j+1) t
def yn3(j:Nat)(S:List AW):(CU j S).length=S.length*3:=by
 induction S generalizing j with
 | nil=>rfl
 | cons h t ih=>simp only[CU,aR,ih];omega
def zs7(j:Nat)(A B:List AW):CU j (A++B)=CU j A++CU (j+A.length) B:=by
 induction A generalizing j with
 | nil=>simp[CU]
 | cons h t ih =>
  simp only[CU,cE,ih,aR];rw[show j+1+t.length=j+(t.length+1) by omega]
def yn4(j:Nat)(S:List AW)(i:Nat)(h:i<S.length):(CU j S)[i*3]?=some (nI ((j:Int)+i+1))/\(CU j S)[i*3+1]?=some (nI S[i].1)/\(CU j S)[i*3+2]?=some (nI S[i].2):=by
 induction S generalizing j i with
 | nil=>simp at h
 | cons a t ih =>
  cases i with
  | zero=>simp[CU]
  | succ i =>
   have:=ih (j+1) i (by simpa using h);simp only[CU];rw[show(i+1)*3=i*3+1+1+1 by omega];simp only[bF,iE];refine⟨this.1.trans (by congr 2;push_cast;omega),this.2.1,this.2.2⟩
def yn5(j:Nat)(S:List AW)(i:Nat)(h:i<S.length)(v:Nat):(CU j S).set (i*3+2) (nI v)=CU j (S.set i (S[i].1,v)):=by
 induction S generalizing j i with
 | nil=>simp at h
 | cons a t ih =>
  cases i with
  | zero=>simp[CU]
  | succ i =>
   have:=ih (j+1) i (by simpa using h);simp only[CU,gH,iE];rw[show(i+1)*3=(i*3+2)+1 by omega];simp only[gH,this]
def AX(S:List AW):Bool:=S.any λh=>decide ((h.2:Int)<AS h.1)
structure wc5(w:World)(b:Nat)(n:Nd):Prop where
 c0:w.cell? (aD b 0)=some (nI n.depth)
 c1:w.cell? (aD b 1)=some (nI n.kind)
 c2:w.cell? (aD b 2)=some (.string n.name)
 c3:w.cell? (aD b 3)=some (nI n.num)
 c4:w.cell? (aD b 4)=some (nI n.op)
 c5:w.cell? (aD b 5)=some (nI n.pos)
def wc5.of{n:Nd}(h:wc5 w b n)(d:∀o,w1.cell? (aD b o)=w.cell? (aD b o)):wc5 w1 b n :=
 ⟨by rw[d];exact h.c0,by rw[d];exact h.c1,by rw[d];exact h.c2,by rw[d];exact h.c3,by rw[d];exact h.c4,by rw[d];exact h.c5⟩
def wg1:Value->Nat
 | .slice _ n _=>n
 | _=>0
def Stk(w:World)(B:Nat)(v:Value)(S:List AW):Prop:=w.ownsRow B 174 3 v S.length (CU 0 S)
def Stk.form{v:Value}(h:Stk w B v S)(J:0<S.length):∃g cap,v=.slice (sA g 0) S.length cap/\B<=g/\g<w.heap.size:=by
 rcases h.2 with ⟨_,I⟩ | ⟨g,cap,o,G,D,d,_⟩
 ·omega
 refine⟨g,cap,G,D,?_⟩;rcases cC g w.heap.size with h | h
 ·exact h
 rw[cU h]at d;cases d
def Stk.below{v:Value}(h:Stk w B v S)(d:Below w.heap.size w w1):Stk w1 B v S:=by
 refine⟨h.1,?_⟩;rcases h.2 with h0 | ⟨g,cap,cur,hv,hg,hh,hr⟩
 ·exact .inl h0
 refine .inr ⟨g,cap,cur,hv,hg,?_,hr⟩;rw[d.block g ?_];exact hh;rcases cC g w.heap.size with h | h
 ·exact h
 rw[cU h]at hh;cases hh
def Stk.pop{g cap:Nat}{m:Nat}(D:m+1<=S.length)(h:Stk w B (.slice (sA g 0) (m+1) cap) (S.take (m+1))):Stk w B (.slice (sA g 0) m cap) (S.take m):=by
 have e:S.take (m+1)=S.take m++[S[m]]:=cN oM;have o:(S.take (m+1)).length=m+1:=by rw[bH];omega
 have d:(S.take m).length=m:=by rw[bH];omega
 unfold Stk at *;rw[o,e,zs7]at h;rw[d];exact ownsRow_pop (by rw[yn3,d]) h
end Go.Proofs.YthoegkcpmgalbaaGreatDoor
