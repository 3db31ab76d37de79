import Derived.Test.YthoegkcpmgalbaaGreatDoorKCrshape
set_option maxHeartbeats 8000000
set_option linter.all false
namespace Go.Proofs.YthoegkcpmgalbaaGreatDoor
open Go.RowKit
variable{S st:List AW}{ar:List (ByteArray×Nat)}{b k o:Nat}{sc:List ByteArray}{w w1:World}
structure wd9(st S:List AW):Prop where
 kinds:∀h∈st,h.1<16
 same:S=st\/(∃k c,st=S++[(k,c)]/\BF k=false)
def yx0(h:k<16):AS k=FB k:=by
 have:∀j:Fin 16,AS ((j:Nat):Int)=FB j:=by decide
 exact this ⟨k,h⟩
def zY5(h:BF k=false):AS k<=0:=by unfold BF at h;simp at h;omega
def zY6(hk:k<16)(h:BF k=false)(c:Nat):DB k c=0:=by
 have D:∀j:Fin 16,BF j=false->(j:Nat)≠9/\rH0 j=0/\rH1 j=0/\rH2 j=0:=by decide
 obtain⟨a,b,d,e⟩:=D ⟨k,hk⟩ h;unfold DB;rw[aC a]
 split
 ·exact b
 split
 ·exact d
 split
 ·exact e
 rfl
def zD6(o h:Nat)(d:3<=h):DB o h=if o=9 then 2 else 0:=by unfold DB;rw[aC (by omega:¬h=0),aC (by omega:¬h=1),aC (by omega:¬h=2)]
def zs1:∀o k:Fin 16,∀h:Fin 4,EQ ((o:Nat):Int) ((h:Nat):Int) ((k:Nat):Int)=(DB o h==BK k):=by decide +kernel
def zY7(o h k:Nat)(I:3<=h):EQ o h k=EQ o 3 k:=by
 unfold EQ;obtain⟨a,b⟩:=zP3 o;have D:((h:Int)==0)=false:=by rw[aF];omega
 have G:((h:Int)==1)=false:=by rw[aF];omega
 have d:((h:Int)==2)=false:=by rw[aF];omega
 rw[D,G,d,aN (by omega:¬(h:Int)<AS o),aN (by omega:¬(3:Int)<AS o)];rfl
def zS9(o h k:Nat)(d:o<16)(D:k<16):EQ o h k=(DB o h==BK k):=by
 by_cases G:h<4
 ·exact zs1 ⟨o,d⟩ ⟨k,D⟩ ⟨h,G⟩
 rw[zY7 o h k oM];have:=zs1 ⟨o,d⟩ ⟨k,D⟩ ⟨3,oM⟩;rw[zD6 o h oM,<-zD6 o 3 oM];exact this
def yx1(k:Nat)(J:k<16)(d G:Int)(I:d<=9223372036854775807):wk3 k d G=(decide (0<=d)&&decide (d<=wh6 k)&&decide (wj0 k<=G)&&decide (G<=wj1 k)):=by
 have D:k=0\/k=1\/k=2\/k=3\/k=4\/k=5\/k=6\/k=7\/k=8\/k=9\/k=10\/k=11\/k=12\/k=13\/k=14\/k=15:=oM;rcases D with rfl | rfl | rfl | rfl | rfl | rfl | rfl | rfl | rfl | rfl | rfl | rfl | rfl | rfl | rfl | rfl
 all_goals (rw[dM];simp[wk3,wh6,wj0,wj1];omega)
def zT0(n:Nd)(G:n.num<=9223372036854775807):CL n.kind n.name.toList n.num n.op=ES n:=by
 unfold CL ES;by_cases h:0<=n.kind/\n.kind<=15
 ·rw[aV h.1,aV h.2]
  obtain⟨k,I⟩:=eG h.1;have d:k<16:=oM;rw[I];simp only[aO,fU];unfold wh1
  have D:wa0 (k:Int)=wc2 k:=by
   have:∀j:Fin 16,wa0 ((j:Nat):Int)=wc2 j:=by decide
   exact this ⟨k,d⟩
  rw[D,yx1 k d _ _ G]
 have:(decide (0<=n.kind)&&decide (n.kind<=15))=false:=by rw[eS];simp;omega
 rw[this];rfl
def zT1(h:∀x∈st,x.1<16):CS st=AX st:=by
 unfold CS AX
 induction st with
 | nil=>rfl
 | cons a t ih =>
  rw[bO,bO,ih (λx d=>h x (bG _ d)),yx0 (h a aY)]
def zT2{c:Nat}(h:BF k=false):AX (S++[(k,c)])=AX S:=by have:=zY5 h;unfold AX;rw[List.any_append];simp only[bO,List.any_nil,fD];rw[aN (by show ¬((c:Int)<AS k);omega),fD]
def wd9.wants(h:wd9 st S)(m:Nat)(d:m<=st.length):CS (st.drop m)=AX (S.drop m):=by
 rw[zT1 (λx G=>h.kinds x (iK G))];rcases h.same with rfl | ⟨k,c,rfl,ho⟩
 ·rfl
 by_cases D:m<=S.length
 ·rw[List.drop_append_of_le_length D,zT2 ho]
 rw[aA]at d;simp only[aR,cM]at d;rw[aU (by rw[aA];simp only[aR,cM];omega),aU oM]
def zY8(h:k<16):wh7 k=(BK k==1)/\wc8 k=(BK k==2):=by
 have:∀j:Fin 16,wh7 j=(BK j==1)/\wc8 ((j:Nat):Int)=(BK j==2):=by decide
 exact this ⟨k,h⟩
def zs2{m:Nat}(h:m<S.length):CB (S.take (m+1))=S.take m++[(S[m].1,S[m].2+1)]:=by
 have e:S.take (m+1)=S.take m++[S[m]]:=cN h;have l:(S.take m).length=m:=by rw[bH];omega
 rw[zs5 (k:=m) (by rw[bH];omega)];have g:(S.take (m+1))[m]'(by rw[bH];omega)=S[m]:=eQ;rw[g,e,fP _ _ oM,l,eJ];rfl
def wd9.len(h:wd9 st S):S.length<=st.length:=by
 rcases h.same with rfl | ⟨k,c,rfl,_⟩
 ·exact nR_ _
 rw[aA];omega
def wd9.at(h:wd9 st S){m:Nat}(d:m<S.length):st.take m=S.take m/\st.getD m (0,0)=S[m]:=by
 rcases h.same with rfl | ⟨k,c,rfl,_⟩
 ·exact⟨rfl,by rw[bT,aJ d];rfl⟩
 refine⟨List.take_append_of_le_length oM,?_⟩;rw[bT,aQ d,aJ d];rfl
def wd9.push{A:List AW}(G:k<16)(D:∀h∈A,h.1<16):wd9 (A++[(k,0)]) (if BF k then A++[(k,0)] else A):=by
 refine⟨λh hh=>?_,?_⟩
 ·rcases bA.1 hh with hh | hh
  ·exact D h hh
  simp at hh;subst hh;exact G
 cases d:BF k
 ·exact .inr ⟨k,0,rfl,d⟩
 exact .inl rfl
def zj2{g:Bool}{d:Int}:DZ st g d k=true↔(0<=d-1/\d-1<=st.length)/\CS (st.drop (d-1).toNat)=false/\DA st g (d-1).toNat (BK k)=true:=by
 unfold DZ;simp only[bM,bV,fK];constructor
 ·rintro⟨⟨⟨a,b⟩,c⟩,d⟩;exact⟨⟨a,b⟩,c,d⟩
 rintro⟨⟨a,b⟩,c,d⟩;exact⟨⟨⟨a,b⟩,c⟩,d⟩
def yC8(ns:List Nd)(a6:∀n∈ns,n.num<=9223372036854775807):∀(i:Nat) (st S:List AW) (g:Bool),wd9 st S->FD ns i st g=BT ns i S g:=by
 induction ns with
 | nil =>
  intro i st S g h;have:=h.wants 0 (zL_ _);rw[bB,bB]at this;rw[FD,BT,this]
 | cons n ns ih =>
  intro i st S g h;have L:=ih (λx hx=>a6 x (bG _ hx));have Z:=zT0 n (a6 n aY);clear ih;rw[FD];by_cases hf:ES n=false
  ·rw[aG hf]
   by_cases hw:AX (S.drop (n.depth-1).toNat)=true
   ·rw[zp5 hw]
   rw[zm9 ⟨rfl,by simpa using hw⟩ (.inr (by rw[Z];exact hf))]
  rw[aC hf];have X:ES n=true:=by simpa using hf
  obtain⟨k0,b0⟩:=zi0 X;obtain⟨k,hk⟩:=eG k0;have D:k<16:=oM;have G:n.kind.toNat=k:=oM;rw[G];by_cases hw:AX (S.drop (n.depth-1).toNat)=true
  ·rw[zp5 hw,aG]
   rw[eS,Ne,zj2];rintro⟨⟨a,b⟩,c,d⟩;rw[h.wants _ oM,hw]at c;cases c
  have R:AX (S.drop (n.depth-1).toNat)=false:=by simpa using hw
  by_cases hd:n.depth≠(S.take (n.depth-1).toNat).length+1
  ·rw[zm9 ⟨rfl,R⟩ (.inl hd),aG]
   rw[eS,Ne,zj2];rintro⟨⟨a,b⟩,c,d⟩;rw[bH]at hd;rcases h.same with rfl | ⟨lk,lc,rfl,ho⟩
   ·omega
   rw[aA]at b;simp only[aR,cM]at b;have J:(n.depth-1).toNat=S.length+1:=oM;rw[J]at d;unfold DA at d;rw[aC oM]at d;have I:(S++[(lk,lc)]).getD (S.length+1-1) (0,0)=(lk,lc):=by simp[bT]
   rw[I]at d;simp only[]at d;rw[zY6 (h.kinds (lk,lc) (by simp)) ho,bZ]at d;have:=zE3 D;omega
  have a7:n.depth=(S.take (n.depth-1).toNat).length+1:=by simpa using hd
  have a9:(n.depth-1).toNat<=S.length:=by rw[bH]at a7;omega
  have a8:=h.len;have J:(S.take (n.depth-1).toNat).length=(n.depth-1).toNat:=by rw[bH];omega
  have a1:CS (st.drop (n.depth-1).toNat)=false:=by rw[h.wants _ oM];exact R
  generalize W:(n.depth-1).toNat=m at *;have a2:n.depth=(m:Int)+1:=oM
  cases m with
  | zero =>
   have K:n.depth=1:=oM;rw[zP1 (by rw[W];exact⟨rfl,R⟩) K (by rw[Z];exact X),G];obtain⟨e1,e2⟩:=zY8 D;rw[hk,e1,e2];have hs:BK k=1\/BK k=2\/(BK k≠1/\BK k≠2):=oM
   have I:DZ st g n.depth k=DA st g 0 (BK k):=by
    rw[dM,zj2,W,K];constructor
    ·exact λx=>x.2.2
    exact λx=>⟨⟨oM,oM⟩,a1,x⟩
   rw[I];unfold DA;rw[aG rfl];have Y:DW g n=(g||BK k==2):=by unfold DW;rw[aG K,G]
   have a3:AO st (n.depth-1).toNat k=[(k,0)]:=by rw[W];rfl
   rcases hs with hs | hs | ⟨hs1,hs2⟩
   ·rw[hs]at Y ⊢
    cases g
    ·simp only[Bool.not_false]
     rw[aC (by decide),aC oM,aC (by decide),Y];rw[W,G] at *;exact L _ _ _ _ (wd9.push (A:=[]) D sI)
    rfl
   ·rw[hs]at Y ⊢
    cases g
    ·rw[aC (by decide),aC oM,aC (by decide),Y]
     rw[W,G] at *;exact L _ _ _ _ (wd9.push (A:=[]) D sI)
    rw[aC (by decide),aC oM,aC (by decide),Y];rw[W,G] at *;exact L _ _ _ _ (wd9.push (A:=[]) D sI)
   have b1:(BK k==1)=false:=by rw[aF];exact hs1
   have O:(BK k==2)=false:=by rw[aF];exact hs2
   rw[b1,O]
   cases g<;>rfl
  | succ m =>
   have K:m<S.length:=oM;obtain⟨t1,t2⟩:=h.at K
   have a4:S[m].1<16:=by
    have:S[m]∈st:=by
     rcases h.same with e | ⟨a,b,e,_⟩
     ·rw[<-e];exact cB _
     rw[e];exact cG _ (cB _)
    exact h.kinds _ this
   have a5:(S.take (m+1)).getD ((S.take (m+1)).length-1) (0,0)=S[m]:=by rw[J,dA,bT,List.getElem?_take,aG oM,aJ K];rfl
   rw[zZ9 (S1:=S.take (m+1)) (by rw[W];exact⟨rfl,R⟩) (λe=>by rw[e]at J;simp at J) (by rw[J,a2]) (by rw[Z];exact X),a5,G]
   have I:DZ st g n.depth k=(DB S[m].1 S[m].2==BK k):=by
    rw[dM,zj2,W,a2];unfold DA;rw[aC oM,dA,t2];constructor
    ·exact λx=>x.2.2
    exact λx=>⟨⟨oM,oM⟩,a1,x⟩
   rw[I,hk,zS9 _ _ _ a4 D];by_cases hx:(DB S[m].1 S[m].2==BK k)=false
   ·rw[aG hx,aG hx]
   rw[aC hx,aC hx];by_cases O:24<n.depth
   ·rw[aG O,aG O]
   rw[aC O,aC O];have Y:DW g n=g:=by unfold DW;rw[aC oM]
   have a3:AO st (m+1) k=CB (S.take (m+1))++[(k,0)]:=by unfold AO;rw[aC oM,dA,t1,t2,zs2 K,bN];rfl
   rw[Y,a3];refine L _ _ _ _ (wd9.push D ?_);intro x hx';rw[zs2 K]at hx';rcases bA.1 hx' with hx' | hx'
   ·refine h.kinds x ?_
    have:x∈S:=dR hx';rcases h.same with e | ⟨a,b,e,_⟩
    ·rw[<-e];exact this
    rw[e];exact cG _ this
   simp at hx';subst hx';exact a4
def zz0(ns:List Nd)(d:∀n∈ns,n.Ok):CJ ns=BL ns:=by unfold CJ BL;rw[yC8 ns (λn D=>(d n D).num) 0 [] [] false ⟨λh G=>absurd G (by simp),.inl rfl⟩]
abbrev DP(n:Nd):Value:=.agg #[nI n.depth,nI n.kind,.string n.name,nI n.num,nI n.op,nI n.pos]
def FC(n:Nd):Bool:=decide (10<=n.kind)
def DU(n:Nd):Bool:=if n.kind=11 then false else if n.kind=14 then n.op==1 else if n.kind=15 then decide (n.op<=7) else true
def DH(n:Nd):Bool:=if n.kind=3\/n.kind=13\/n.kind=5 then true else (n.op==6||n.op==7)
def DQ(n:Nd):Bool:=if n.kind=5\/n.kind=7\/n.kind=8 then false else if n.kind=14 then n.op==1 else if n.kind=15 then decide (n.op<14) else true
def BS(n:Nd):Bool:=if n.kind=10\/n.kind=12\/n.kind=13 then true else if n.kind=14 then n.op==1 else if n.kind=15 then decide (3<=n.op)&&decide (n.op<=7) else false
def DM(n:Nd):Bool:=if n.kind=11 then true else if n.kind=14 then n.op==2 else if n.kind=15 then decide (8<=n.op)&&decide (n.op<=15) else false
def BR(n:Nd):Bool:=n.kind==3||n.kind==13||n.kind==5||(n.kind==15&&(n.op==6||n.op==7))
def BB(n:Nd):Int:=if n.kind=2\/n.kind=4\/n.kind=12 then 1 else if n.kind=3\/n.kind=13 then 2 else 0
def zY9(n:Nd)(w:World):Calls Tryz.prog 159 #[DP n] w λe w'=>e=.returned (.bool (FC n))/\Below w.heap.size w w':=by go_enter Tryz.func159,Tryz.ntmps159;go_wp2;go_ret;exact⟨rfl,(Below.refl _ _).alloc (nR_ _) _⟩
def zJ1(n:Nd)(w:World):Calls Tryz.prog 160 #[DP n] w λe w'=>e=.returned (.bool (DU n))/\Below w.heap.size w w':=by
 go_enter Tryz.func160,Tryz.ntmps160;go_wp2
 all_goals first
  |(exfalso;simp_all;done)
  |(go_ret;refine⟨za4 ?_,(Below.refl _ _).alloc (aK _) _⟩;simp only[bZ,aF] at *;simp[DU, *];done)
def zZ0(n:Nd)(w:World):Calls Tryz.prog 161 #[DP n] w λe w'=>e=.returned (.bool (DH n))/\Below w.heap.size w w':=by
 go_enter Tryz.func161,Tryz.ntmps161;go_wp2
 all_goals first
  |(exfalso;simp_all;done)
  |(go_ret;refine⟨za4 ?_,(Below.refl _ _).alloc (aK _) _⟩;simp only[bZ,aF] at *;simp[DH, *];done)
def zZ1(n:Nd)(w:World):Calls Tryz.prog 162 #[DP n] w λe w'=>e=.returned (.bool (DQ n))/\Below w.heap.size w w':=by
 go_enter Tryz.func162,Tryz.ntmps162;go_wp2
 all_goals first
  |(exfalso;simp_all;done)
  |(go_ret;refine⟨za4 ?_,(Below.refl _ _).alloc (aK _) _⟩;simp only[bZ,aF] at *;simp[DQ, *];done)
def zJ2(n:Nd)(w:World):Calls Tryz.prog 84 #[DP n] w λe w'=>e=.returned (.bool (BS n))/\Below w.heap.size w w':=by
 go_enter Tryz.func84,Tryz.ntmps84;go_wp2
 all_goals first
  |(exfalso;simp_all;done)
  |(go_ret;refine⟨za4 ?_,(Below.refl _ _).alloc (aK _) _⟩;simp only[bZ,aF] at *;simp[BS, *];done)
  |(go_ret;refine⟨za4 ?_,(Below.refl _ _).alloc (aK _) _⟩;simp only[bZ,aF] at *;simp[BS, *];omega)
def zZ2(n:Nd)(w:World):Calls Tryz.prog 86 #[DP n] w λe w'=>e=.returned (.bool (DM n))/\Below w.heap.size w w':=by
 go_enter Tryz.func86,Tryz.ntmps86;go_wp2
 all_goals first
  |(exfalso;simp_all;done)
  |(go_ret;refine⟨za4 ?_,(Below.refl _ _).alloc (aK _) _⟩;simp only[bZ,aF] at *;simp[DM, *];done)
  |(go_ret;refine⟨za4 ?_,(Below.refl _ _).alloc (aK _) _⟩;simp only[bZ,aF] at *;simp[DM, *];omega)
def zZ3(n:Nd)(w:World):Calls Tryz.prog 51 #[DP n] w λe w'=>e=.returned (.bool (BR n))/\Below w.heap.size w w':=by
 go_enter Tryz.func51,Tryz.ntmps51;go_wp2
 all_goals first
  |(exfalso;simp_all;done)
  |(go_ret;refine⟨za4 ?_,(Below.refl _ _).alloc (aK _) _⟩;(try simp only[bZ,aF] at *);simp[BR, *];done)
def zT3(n:Nd)(w:World):Calls Tryz.prog 49 #[DP n] w λe w'=>e=.returned (nI (BB n))/\Below w.heap.size w w':=by
 go_enter Tryz.func49,Tryz.ntmps49;go_wp2
 all_goals first
  |(exfalso;simp_all;done)
  |(go_ret;refine⟨zl6 ?_,(Below.refl _ _).alloc (aK _) _⟩;simp only[bZ,aF] at *;simp[BB, *];done)
def AH:List ByteArray->List UInt8->Nat->Int
 | [],_,_ => -1
 | a::t,v,k=>if v==a.toList then (k:Int) else AH t v (k+1)
structure wc3(w:World)(b o:Nat)(l:List ByteArray):Prop where
 lt:b<w.heap.size
 c:∀(i:Nat) (h:i<l.length),w.cell? ⟨b,o+i,none⟩=some (.string l[i])
def wc3.below{l:List ByteArray}(h:wc3 w b o l)(d:Below w.heap.size w w1):wc3 w1 b o l :=
 ⟨lL_ h.lt d.size,λi D=>(d.cell (p:=⟨b,o+i,none⟩) h.lt).trans (h.c i D)⟩
def zZ4(b o cap:Nat)(l:List ByteArray)(v:ByteArray)(w:World)(h:wc3 w b o l)(O:l.length<=1000) :
  Calls Tryz.prog 184 #[.slice (sA b o) l.length cap,.string v] w λe w'=>e=.returned (nI (AH l v.toList 0))/\w'=w:=by
 have J:Hi _:=h.c;have K:=h.lt;have L:(l.length:Int)<=1000:=oM;clear h;have I:l.length<9223372036854775807:=oM;go_enter Tryz.func184,Tryz.ntmps184;go_wp2_with fail
 go_loop [8] (λt=>∃k:Nat,k<=l.length/\t=nI k/\Hi (AH l v.toList 0=AH (l.drop k) v.toList k)) (λt=>l.length-(intOf t).toNat)
 case atStart=>exact⟨0,oM,rfl,by unfold Hi;rw[bB]⟩
 obtain⟨k,R,rfl,D⟩:=hrel;by_cases d:k<l.length
 ·have c:=J.o k d
  have G:AH (l.drop k) v.toList k=if v.toList==l[k].toList then (k:Int) else AH (l.drop (k+1)) v.toList (k+1):=by rw[aP d,AH]
  rw[G]at D;clear G;generalize l[k]=a at *;cases G:(v.toList==a.toList)
  ·rw[G,aC (by simp)]at D
   go_wp2_with fail
   go_round
   case rel=>exact⟨k+1,oM,by go_num,D⟩
   case measure=>simp[intOf];omega
  rw[G,aG rfl]at D;go_wp2_with fail;go_ret;exact⟨zl6 D.o.symm,rfl⟩
 have G:Hi (AH l v.toList 0 = -1):=by unfold Hi;rw[D.o,aU oM];rfl
 clear D;go_wp2_with fail;go_ret;exact⟨zl6 G.o.symm,rfl⟩
structure AI(w:World)(b:Nat)(sc:List ByteArray)(ar:List (ByteArray×Nat)):Prop where
 lt:b<w.heap.size
 sl:sc.length<=8
 al:ar.length<=3
 str:∀(i:Nat) (h:i<sc.length),w.cell? (aD b i)=some (.string sc[i])
 an:∀(i:Nat) (h:i<ar.length),w.cell? ⟨b,8+i*2,none⟩=some (.string ar[i].1)
 av:∀(i:Nat) (h:i<ar.length),w.cell? ⟨b,8+i*2+1,none⟩=some (nI ar[i].2)
 sn:w.cell? (aD b 14)=some (nI sc.length)
 aln:w.cell? (aD b 15)=some (nI ar.length)
 room:∀i,i<16->∃v,w.cell? (aD b i)=some v
 warm:∀i,w.frozen? (aD b i)=false
def zw6(b:Nat)(s:ByteArray)(sc:List ByteArray)(ar:List (ByteArray×Nat))(w:World)(h:AI w b sc ar) :
  Calls Tryz.prog 174 #[pA b 0,.string s] w λe w'=>e=.returned (nI (AH sc s.toList 0))/\∃n,w'=w.drewN n:=by
 have c:=h.sn;have J:=h.sl;have I:(sc.length:Int)<=8:=oM;have D:=h.lt;have d:Hi (∀n,wc3 (w.drewN n) b 0 sc):=λn=>wc3.below ⟨h.lt,λi G=>by rw[aL];exact h.str i G⟩ (below_drewN (Below.refl _ _) n);clear h;go_enter Tryz.func174,Tryz.ntmps174;go_wp2_with fail
 go_quiet ((go_at_call 184;exact Calls.quiet_of_same (zZ4 b 0 _ sc s _ (d.o _) oM)))
 go_wp2_with fail;go_ret;exact⟨rfl,_,rfl⟩
def AE:List (ByteArray×Nat)->List UInt8->Nat->Int
 | [],_,_ => -1
 | a::t,v,k=>if a.1.toList==v then (k:Int) else AE t v (k+1)
structure wg0(w:World)(b o:Nat)(l:List (ByteArray×Nat)):Prop where
 lt:b<w.heap.size
 c0:∀(i:Nat) (h:i<l.length),w.cell? ⟨b,o+i*2,none⟩=some (.string l[i].1)
 c1:∀(i:Nat) (h:i<l.length),w.cell? ⟨b,o+i*2+1,none⟩=some (nI l[i].2)
def wg0.below{l:List (ByteArray×Nat)}(h:wg0 w b o l)(d:Below w.heap.size w w1):wg0 w1 b o l :=
 ⟨lL_ h.lt d.size,λi D=>(d.cell (p:=⟨b,o+i*2,none⟩) h.lt).trans (h.c0 i D),λi D=>(d.cell (p:=⟨b,o+i*2+1,none⟩) h.lt).trans (h.c1 i D)⟩
def zJ3(q:Nat)(a s:ByteArray)(n:Nat)(w:World)(D:w.cell? (aD q 0)=some (.string s))(G:q<w.heap.size) :
  Calls Tryz.prog 186 #[.agg #[.string a,nI n],pA q 0] w λe w'=>e=.returned (.bool (a.toList==s.toList))/\Below w.heap.size w w':=by
 have d:¬q=w.heap.size:=oM;go_enter Tryz.func186,Tryz.ntmps186;go_wp2_with fail;go_ret;exact⟨rfl,(Below.refl _ _).alloc (nR_ _) _⟩
def zz1(b o cap q:Nat)(l:List (ByteArray×Nat))(s:ByteArray)(w:World)(h:wg0 w b o l)(Z:l.length<=1000)(O:w.cell? (aD q 0)=some (.string s))(Y:q<w.heap.size) :
  Calls Tryz.prog 185 #[.slice (sA b o) l.length cap,.func (.func 186) #[] #[pA q 0]] w λe w'=>e=.returned (nI (AE l s.toList 0))/\Below w.heap.size w w':=by
 have W:=h.lt;have R:(l.length:Int)<=1000:=oM;have L:Hi _:=h;clear h;go_enter Tryz.func185,Tryz.ntmps185;go_wp2_with fail;go_loopw [8] (λt wr=>∃k:Nat,k<=l.length/\t=nI k/\Hi (AE l s.toList 0=AE (l.drop k) s.toList k)/\Hi (Below w.heap.size w wr)) (λt _=>l.length-(intOf t).toNat)
 case atStart=>exact⟨0,oM,rfl,by unfold Hi;rw[bB],Below.refl _ _⟩
 obtain⟨k,hk,rfl,D,G⟩:=hrel;have X:=G.o.size;by_cases d:k<l.length
 ·have c0:=(L.o.below G.o).c0 k d
  have c1:=(L.o.below G.o).c1 k d;have K:wr.cell? (aD q 0)=some (.string s):=(G.o.cell (p:=⟨q,0,none⟩) Y).trans O
  have I:AE (l.drop k) s.toList k=if l[k].1.toList==s.toList then (k:Int) else AE (l.drop (k+1)) s.toList (k+1):=by rw[aP d,AE]
  rw[I]at D;clear I;generalize l[k].1=a at *;generalize l[k].2=an at *;go_wp2_with fail;refine mq (zJ3 q a s an _ K oM) λw1 J=>?_;have I:=hid (G.o.trans (J.mono X));clear J;cases J:(a.toList==s.toList)
  ·rw[J,aC (by simp)]at D
   go_wp2_with fail;go_roundw
   case rel=>exact⟨k+1,oM,by go_num,D,I⟩
   case measure=>simp[intOf];omega
  rw[J,aG rfl]at D;go_wp2_with fail;go_ret;exact⟨zl6 D.o.symm,I.o⟩
 have I:Hi (AE l s.toList 0 = -1):=by unfold Hi;rw[D.o,aU oM];rfl
 clear D;go_wp2_with fail;go_ret;exact⟨zl6 I.o.symm,G.o⟩
def zD7(b:Nat)(s:ByteArray)(sc:List ByteArray)(ar:List (ByteArray×Nat))(w:World)(h:AI w b sc ar) :
  Calls Tryz.prog 175 #[pA b 0,.string s] w λe w'=>e=.returned (nI (AE ar s.toList 0))/\Below w.heap.size w w':=by
 have c:=h.aln;have O:=h.al;have L:(ar.length:Int)<=3:=oM;have J:=h.lt;have K:Hi (wg0 w b 8 ar):=⟨h.lt,h.an,h.av⟩;have I:¬b=w.heap.size:=oM;clear h;have G:∀(D:Fn) (first cap:Array Value) (w:World),(Instr.makeFunc D first cap).run Tryz.prog w=.ok (.func D first cap) w:=λ_ _ _ _=>rfl;go_enter Tryz.func175,Tryz.ntmps175;go_wp2_with fail
 go_region_with (go_at_call 185;refine mq (zz1 b 8 _ w.heap.size ar s _ (K.o.below (by first | exact(Below.refl _ _).alloc (aK _) _ | exact((Below.refl _ _).alloc (aK _) _).drew)) oM (by simp[go_sem]) (by simp)) λw1 d=>?_)
 all_goals
  go_wp2_with fail;go_ret;refine⟨rfl,?_⟩
  first
   | exact((Below.refl _ _).alloc (nR_ _) _).drew.trans (d.mono sI)
   | exact((Below.refl _ _).alloc (nR_ _) _).trans (d.mono sI)
def AI.below(h:AI w b sc ar)(G:Below w.heap.size w w1):AI w1 b sc ar:=by have D:∀o,w1.cell? (aD b o)=w.cell? (aD b o):=λo=>G.cell (p:=⟨b,o,none⟩) h.lt;have I:∀o,w1.frozen? (aD b o)=w.frozen? (aD b o):=λo=>G.frozen (p:=⟨b,o,none⟩) h.lt;exact⟨Nat.lt_of_lt_of_le h.lt G.size,h.sl,h.al,λi d=>by rw[D];exact h.str i d,λi d=>by rw[D];exact h.an i d,λi d=>by rw[D];exact h.av i d,by rw[D];exact h.sn,by rw[D];exact h.aln,λi d=>by rw[D];exact h.room i d,λi=>by rw[I];exact h.warm i⟩
def yC9(l:List ByteArray)(v:List UInt8):∀k:Nat,-1<=AH l v k/\AH l v k<k+l.length:=by
 induction l with
 | nil=>intro k;simp[AH];omega
 | cons a t ih =>
  intro k;unfold AH
  split
  ·simp;omega
  have:=ih (k+1);simp at *;omega
def yx2(l:List (ByteArray×Nat))(v:List UInt8):∀k:Nat,-1<=AE l v k/\AE l v k<k+l.length:=by
 induction l with
 | nil=>intro k;simp[AE];omega
 | cons a t ih =>
  intro k;unfold AE
  split
  ·simp;omega
  have:=ih (k+1);simp at *;omega
def wc4(sc:List ByteArray)(ar:List (ByteArray×Nat))(v:List UInt8):Bool:=decide (0<=AH sc v 0)||decide (0<=AE ar v 0)
def zZ5(b:Nat)(s:ByteArray)(sc:List ByteArray)(ar:List (ByteArray×Nat))(w:World)(h:AI w b sc ar) :
  Calls Tryz.prog 181 #[pA b 0,.string s] w λe w'=>e=.returned (.bool (wc4 sc ar s.toList))/\Below w.heap.size w w':=by
 have K:Hi _:=h;clear h;go_enter Tryz.func181,Tryz.ntmps181;go_wp2_with fail;refine(zw6 b s sc ar _ K.o).mono ?_;rintro e w1 ⟨rfl,n,rfl⟩;have G:Hi (Below w.heap.size w (w.drewN n)):=below_drewN (Below.refl _ _) n;have D:Hi _:=K.o.below G.o;have R:(w.drewN n).heap.size=w.heap.size:=by simp
 generalize w.drewN n=W at *;by_cases d:0<=AH sc s.toList 0
 ·have I:Hi (wc4 sc ar s.toList=true):=by unfold Hi wc4;rw[aV d];rfl
  go_wp2_with fail;go_ret;exact⟨za4 I.o.symm,G.o⟩
 have I:Hi (wc4 sc ar s.toList=decide (0<=AE ar s.toList 0)):=by unfold Hi wc4;rw[aN d];rfl
 have L:AH sc s.toList 0<0:=by omega
 have O:decide (0<=AH sc s.toList 0)=false:=dF_ d;clear d;go_wp2_with fail;refine(zD7 b s sc ar _ D.o).mono ?_;rintro e w1 ⟨rfl,d⟩;have J:Hi (Below w.heap.size w w1):=G.o.trans (d.mono oM);clear d;go_wp2_with fail;go_ret;exact⟨za4 I.o.symm,J.o⟩
def DN(sc:List ByteArray)(ar:List (ByteArray×Nat))(v:List UInt8)(n:Int):Int×Int:=if 0<=n then (n,0) else if wc4 sc ar v then (0,42) else (0,41)
def zD8(b:Nat)(s:ByteArray)(n:Int)(sc:List ByteArray)(ar:List (ByteArray×Nat))(w:World)(h:AI w b sc ar) :
  Calls Tryz.prog 173 #[pA b 0,.string s,nI n] w λe w'=>e=.returned (.tuple #[nI (DN sc ar s.toList n).1,nI (DN sc ar s.toList n).2])/\Below w.heap.size w w':=by
 have J:Hi _:=h;clear h;by_cases D:0<=n
 ·have d:Hi (DN sc ar s.toList n=(n,0)):=by unfold Hi DN;rw[aG D]
  go_enter Tryz.func173,Tryz.ntmps173;go_wp2_with fail
  go_ret2
  exact⟨FU (by rw[d.o]) (by rw[d.o]),Below.refl _ _⟩
 have I:n<0:=oM;have d:Hi (DN sc ar s.toList n=if wc4 sc ar s.toList then (0,42) else (0,41)):=by unfold Hi DN;rw[aC D]
 clear D;go_enter Tryz.func173,Tryz.ntmps173;go_wp2_with fail;refine mq (zZ5 b s sc ar _ J.o) λw1 D=>?_;cases G:wc4 sc ar s.toList
 all_goals
  rw[G]at d;go_wp2_with fail
  go_ret2
  exact⟨FU (by rw[d.o];rfl) (by rw[d.o];rfl),D⟩
def we0(b:Nat)(w w':World):Prop:=∀o,16<=o->w'.cell? (aD b o)=w.cell? (aD b o)
def zw2(b:Nat)(s:ByteArray)(sc:List ByteArray)(ar:List (ByteArray×Nat))(w:World)(h:AI w b sc ar)(d:sc.length=8) :
  Calls Tryz.prog 182 #[pA b 0,.string s] w λe w'=>e=.returned (.tuple #[nI 0,nI 44])/\w'=w:=by
 have c:=h.sn;rw[d]at c;clear h d;go_enter Tryz.func182,Tryz.ntmps182;go_wp2_with fail
 go_ret2
 exact⟨rfl,rfl⟩
def zD9(h:AI w b sc ar)(R:sc.length<8)(s:ByteArray) :
  AI ((w.setCell ⟨b,sc.length,none⟩ (.string s)).setCell (aD b 14) (nI ((sc.length:Int)+1))) b (sc++[s]) ar/\we0 b w ((w.setCell ⟨b,sc.length,none⟩ (.string s)).setCell (aD b 14) (nI ((sc.length:Int)+1))):=by
 obtain⟨K,G⟩:=h.room sc.length oM;obtain⟨O,J⟩:=cell?_setCell_some (p:=⟨b,sc.length,none⟩) (x:=.string s) h.sn
 have d:∀o,((w.setCell ⟨b,sc.length,none⟩ (.string s)).setCell (aD b 14) (nI ((sc.length:Int)+1))).cell? (aD b o)=if o=14 then some (nI ((sc.length:Int)+1)) else if o=sc.length then some (.string s) else w.cell? (aD b o):=λo=>by rw[cs _ b 14 o _ _ J,cs _ b sc.length o _ _ G]
 have I:=h.al;refine⟨⟨by simpa using h.lt,by simp;omega,h.al,?_,?_,?_,?_,?_,?_,λi=>by simpa using h.warm i⟩,?_⟩
 ·intro i D
  simp at D;rw[d,aC oM];by_cases e:i=sc.length
  ·rw[aG e];simp[e]
  rw[aC e,h.str i oM,bU oM]
 ·intro i D
  rw[d,aC oM,aC oM];exact h.an i D
 ·intro i D
  rw[d,aC oM,aC oM];exact h.av i D
 ·rw[d,aG rfl];simp
 ·rw[d,aC oM,aC oM];exact h.aln
 ·intro i D
  rw[d]
  split
  ·exact⟨_,rfl⟩
  split
  ·exact⟨_,rfl⟩
  exact h.room i D
 intro o L;rw[d,aC oM,aC oM]
def zz2(b:Nat)(s:ByteArray)(sc:List ByteArray)(ar:List (ByteArray×Nat))(w:World)(h:AI w b sc ar)(O:sc.length<8) :
  Calls Tryz.prog 182 #[pA b 0,.string s] w λe w'=>e=.returned (.tuple #[nI sc.length,nI 0])/\AB b w w'/\AI w' b (sc++[s]) ar/\we0 b w w':=by
 have d:Hi _:=zD9 h O s;have c:=h.sn;have J:=h.lt;have L:=h.warm;have I:(sc.length:Int)<8:=oM;have D:((sc.length:Int)==8)=false:=by rw[aF];omega
 have G:¬sc.length=14:=oM;have K:¬14=sc.length:=oM;obtain⟨R,W⟩:=h.room sc.length oM;clear h;go_enter Tryz.func182,Tryz.ntmps182;go_wp2_with fail
 go_region
 go_wp2_with fail
 go_ret2
 exact⟨rfl,AB.drew (AB.set (AB.set (AB.of (Below.refl _ _)) _ _) _ _),d.o.1.below ((Below.refl _ _).drew),d.o.2⟩
def zz3(b:Nat)(s:ByteArray)(n:Int)(sc:List ByteArray)(ar:List (ByteArray×Nat))(w:World)(h:AI w b sc ar)(d:ar.length=3) :
  Calls Tryz.prog 183 #[pA b 0,.agg #[.string s,nI n]] w λe w'=>e=.returned (.tuple #[nI 0,nI 45])/\Below w.heap.size w w':=by
 have c:=h.aln;have G:=h.lt;rw[d]at c;have D:¬b=w.heap.size:=oM;clear h d;go_enter Tryz.func183,Tryz.ntmps183;go_wp2_with fail
 go_ret2
 exact⟨rfl,(Below.refl _ _).alloc (nR_ _) _⟩
def AB.alloc(h:AB b w w1)(o:Obj):AB b w (w1.alloc o) :=
 ⟨h.low.alloc (zL_ _) o,λq D d=>(Below.heap_alloc w1 o q (lL_ d h.low.size)).trans (h.block q D d)⟩
def zJ4(h:AI w b sc ar)(h3:ar.length<3)(s:ByteArray)(n:Nat) :
  AI (((w.setCell ⟨b,8+ar.length*2,none⟩ (.string s)).setCell ⟨b,8+ar.length*2+1,none⟩ (nI n)).setCell (aD b 15) (nI ((ar.length:Int)+1))) b sc (ar++[(s,n)])/\we0 b w (((w.setCell ⟨b,8+ar.length*2,none⟩ (.string s)).setCell ⟨b,8+ar.length*2+1,none⟩ (nI n)).setCell (aD b 15) (nI ((ar.length:Int)+1))):=by
 obtain⟨R,I⟩:=h.room (8+ar.length*2) oM;obtain⟨Z,L⟩:=h.room (8+ar.length*2+1) oM;obtain⟨W,G⟩:=cell?_setCell_some (p:=⟨b,8+ar.length*2,none⟩) (x:=.string s) L;obtain⟨Y,K⟩:=cell?_setCell_some (p:=⟨b,8+ar.length*2,none⟩) (x:=.string s) h.aln;obtain⟨y2,O⟩:=cell?_setCell_some (p:=⟨b,8+ar.length*2+1,none⟩) (x:=nI n) K
 have d:∀o,(((w.setCell ⟨b,8+ar.length*2,none⟩ (.string s)).setCell ⟨b,8+ar.length*2+1,none⟩ (nI n)).setCell (aD b 15) (nI ((ar.length:Int)+1))).cell? (aD b o)=if o=15 then some (nI ((ar.length:Int)+1)) else if o=8+ar.length*2+1 then some (nI n) else if o=8+ar.length*2 then some (.string s) else w.cell? (aD b o):=λo=>by rw[cs _ b 15 o _ _ O,cs _ b (8+ar.length*2+1) o _ _ G,cs _ b (8+ar.length*2) o _ _ I]
 have J:=h.sl;refine⟨⟨by simpa using h.lt,h.sl,by simp;omega,?_,?_,?_,?_,?_,?_,λi=>by simpa using h.warm i⟩,?_⟩
 ·intro i D
  rw[d,aC oM,aC oM,aC oM];exact h.str i D
 ·intro i D
  simp at D;rw[d,aC oM,aC oM];by_cases e:i=ar.length
  ·rw[aG oM];simp[e]
  rw[aC oM,h.an i oM,bU oM]
 ·intro i D
  simp at D;rw[d,aC oM];by_cases e:i=ar.length
  ·rw[aG oM];simp[e]
  rw[aC oM,aC oM,h.av i oM,bU oM]
 ·rw[d,aC oM,aC oM,aC oM];exact h.sn
 ·rw[d,aG rfl];simp
 ·intro i D
  rw[d]
  repeat' split
  all_goals first | exact⟨_,rfl⟩ | exact h.room i D
 intro o X;rw[d,aC oM,aC oM,aC oM]
def zE0(b:Nat)(s:ByteArray)(n:Nat)(sc:List ByteArray)(ar:List (ByteArray×Nat))(w:World)(h:AI w b sc ar)(X:ar.length<3) :
  Calls Tryz.prog 183 #[pA b 0,.agg #[.string s,nI n]] w λe w'=>e=.returned (.tuple #[nI ar.length,nI 0])/\AB b w w'/\AI w' b sc (ar++[(s,n)])/\we0 b w w':=by
 have I:Hi _:=zJ4 h X s n;have c:=h.aln;have d:=h.lt;have L:=h.warm;have R:(ar.length:Int)<3:=oM;have J:((ar.length:Int)==3)=false:=by rw[aF];omega
 have K:¬b=w.heap.size:=oM;have G:¬w.heap.size=b:=oM;obtain⟨Y,Z⟩:=h.room (8+ar.length*2) oM;obtain⟨v1,r1⟩:=h.room (8+ar.length*2+1) oM;clear h;go_enter Tryz.func183,Tryz.ntmps183;go_wp2_with fail
 go_region
 go_wp2_with fail
 go_ret2
 have D:∀{W:World} {o:Obj},Below W.heap.size W (W.alloc o).drew:=((Below.refl _ _).alloc (nR_ _) _).drew;refine⟨rfl,AB.drew (AB.alloc (AB.set (AB.set (AB.set (AB.of (Below.refl _ _)) _ _) _ _) _ _) _),I.o.1.below D,λo O=>?_⟩;exact(D.cell (p:=⟨b,o,none⟩) (by simpa using d)).trans (I.o.2 o O)
def BY(sc:List ByteArray)(ar:List (ByteArray×Nat))(n:Nd):Int×Int×List ByteArray×List (ByteArray×Nat) :=
 if wc4 sc ar n.name.toList then (0,40,sc,ar)
 else if n.kind=0 then (if sc.length=8 then (0,44,sc,ar) else (sc.length,0,sc++[n.name],ar))
 else if n.num<1\/16<n.num then (0,43,sc,ar)
 else if ar.length=3 then (0,45,sc,ar) else (ar.length,0,sc,ar++[(n.name,n.num.toNat)])
structure CX(b:Nat)(w w':World)(sc:List ByteArray)(ar:List (ByteArray×Nat)):Prop where
 beside:AB b w w'
 names:AI w' b sc ar
 keep:we0 b w w'
def CX.of{w':World}(h:AI w b sc ar)(d:Below w.heap.size w w'):CX b w w' sc ar :=
 ⟨AB.of d,h.below d,λo _=>d.cell (p:=⟨b,o,none⟩) h.lt⟩
def CX.after{w2:World}{d:List ByteArray}{D:List (ByteArray×Nat)}(h:AI w b sc ar)(G:Below w.heap.size w w1)(I:CX b w1 w2 d D):CX b w w2 d D :=
 ⟨⟨(G.mono (zL_ _)).trans I.beside.low,λq K J=>(I.beside.block q K (lL_ J G.size)).trans (G.block q J)⟩,I.names,λo L=>(I.keep o L).trans (G.cell (p:=⟨b,o,none⟩) h.lt)⟩
def zJ5(b:Nat)(n:Nd)(sc:List ByteArray)(ar:List (ByteArray×Nat))(w:World)(h:AI w b sc ar) :
  Calls Tryz.prog 172 #[pA b 0,DP n] w λe w'=>e=.returned (.tuple #[nI (BY sc ar n).1,nI (BY sc ar n).2.1])/\CX b w w' (BY sc ar n).2.2.1 (BY sc ar n).2.2.2:=by
 have K:Hi _:=h;have a4:=h.lt;clear h;have Y:Hi (Below w.heap.size w (w.alloc (.cells #[nI n.depth,nI n.kind,.string n.name,nI n.num,nI n.op,nI n.pos] 53))):=(Below.refl _ _).alloc (nR_ _) _;go_enter Tryz.func172,Tryz.ntmps172;go_wp2_with fail;refine mq (zZ5 b n.name sc ar _ (K.o.below Y.o)) λw1 d=>?_;have D:Hi (Below w.heap.size w w1):=Y.o.trans (d.mono sI);have G:Hi _:=K.o.below D.o;have d1:w1.cell? (aD w.heap.size 1)=some (nI n.kind):=by rw[(wa6 d).1 _ _ (by simp)];simp[go_sem]
 have d2:w1.cell? (aD w.heap.size 2)=some (.string n.name):=by rw[(wa6 d).1 _ _ (by simp)];simp[go_sem]
 have d3:w1.cell? (aD w.heap.size 3)=some (nI n.num):=by rw[(wa6 d).1 _ _ (by simp)];simp[go_sem]
 clear d;cases X:wc4 sc ar n.name.toList
 ·by_cases W:n.kind=0
  ·by_cases O:sc.length=8
   ·have I:Hi (BY sc ar n=(0,44,sc,ar)):=by unfold Hi BY;rw[X,aC (by simp),aG W,aG O]
    go_wp2_with fail;refine mq (zw2 b n.name sc ar _ G.o O) λw2 d=>?_;replace d:=d.symm;subst d;go_wp2_with fail
    go_ret2
    rw[I.o];exact⟨rfl,CX.of K.o D.o⟩
   have d:=G.o.sl;have I:Hi (BY sc ar n=((sc.length:Int),0,sc++[n.name],ar)):=by unfold Hi BY;rw[X,aC (by simp),aG W,aC O]
   go_wp2_with fail;refine mq (zz2 b n.name sc ar _ G.o oM) λw2 ⟨J,L,R⟩=>?_;go_wp2_with fail
   go_ret2
   rw[I.o];exact⟨rfl,CX.after K.o D.o ⟨J,L,R⟩⟩
  have a3:(n.kind==0)=false:=by rw[aF];exact W
  by_cases d:n.num<1\/16<n.num
  ·have I:Hi (BY sc ar n=(0,43,sc,ar)):=by unfold Hi BY;rw[X,aC (by simp),aC W,aG d]
   by_cases O:n.num<1
   ·go_wp2_with fail
    go_ret2
    rw[I.o];exact⟨rfl,CX.of K.o D.o⟩
   have a1:16<n.num:=oM;have Z:1<=n.num:=oM;clear O d;go_wp2_with fail
   go_ret2
   rw[I.o];exact⟨rfl,CX.of K.o D.o⟩
  have Z:1<=n.num:=oM;have a1:n.num<=16:=oM;have g1:decide (n.num<1)=false:=dF_ oM;have g2:decide (16<n.num)=false:=dF_ oM;obtain⟨nn,O⟩:=eG (show 0<=n.num by omega);have a2:Hi (n.num.toNat=nn):=by unfold Hi;omega
  by_cases h3:ar.length=3
  ·have I:Hi (BY sc ar n=(0,45,sc,ar)):=by unfold Hi BY;rw[X,aC (by simp),aC W,aC d,aG h3]
   clear d O;go_wp2_with fail;refine mq (zz3 b n.name _ sc ar _ G.o h3) λw2 J=>?_;go_wp2_with fail
   go_ret2
   rw[I.o];exact⟨rfl,CX.after K.o D.o (CX.of G.o J)⟩
  have a5:=G.o.al;have I:Hi (BY sc ar n=((ar.length:Int),0,sc,ar++[(n.name,nn)])):=by unfold Hi BY;rw[X,aC (by simp),aC W,aC d,aC h3,a2.o]
  clear d;have d:=hid O;clear O;go_wp2_with fail;rw[d.o];refine mq (zE0 b n.name nn sc ar _ G.o oM) λw2 ⟨J,L,R⟩=>?_;go_wp2_with fail
  go_ret2
  rw[I.o];exact⟨rfl,CX.after K.o D.o ⟨J,L,R⟩⟩
 have I:Hi (BY sc ar n=(0,40,sc,ar)):=by unfold Hi BY;rw[X,aG rfl]
 go_wp2_with fail
 go_ret2
 rw[I.o];exact⟨rfl,CX.of K.o D.o⟩
def CO(sc:List ByteArray)(ar:List (ByteArray×Nat))(n:Nd):Int×Int×List ByteArray×List (ByteArray×Nat) :=
 if n.kind=0\/n.kind=1 then BY sc ar n
 else if n.kind=2\/n.kind=4\/n.kind=12 then ((DN sc ar n.name.toList (AH sc n.name.toList 0)).1,(DN sc ar n.name.toList (AH sc n.name.toList 0)).2,sc,ar)
 else if n.kind=3\/n.kind=13 then ((DN sc ar n.name.toList (AE ar n.name.toList 0)).1,(DN sc ar n.name.toList (AE ar n.name.toList 0)).2,sc,ar)
 else (-1,0,sc,ar)
def zT4(b:Nat)(n:Nd)(sc:List ByteArray)(ar:List (ByteArray×Nat))(w:World)(h:AI w b sc ar) :
  Calls Tryz.prog 158 #[pA b 0,DP n] w λe w'=>e=.returned (.tuple #[nI (CO sc ar n).1,nI (CO sc ar n).2.1])/\CX b w w' (CO sc ar n).2.2.1 (CO sc ar n).2.2.2:=by
 have L:Hi _:=h;have a2:=h.lt;clear h;obtain⟨X,G,nm,nu,R,W⟩:=n;have d:Hi (∀o,Below w.heap.size w (w.alloc o)):=λo=>(Below.refl _ _).alloc (nR_ _) _;by_cases D:G=0\/G=1
 ·have O:Hi (CO sc ar ⟨X,G,nm,nu,R,W⟩=BY sc ar ⟨X,G,nm,nu,R,W⟩):=by unfold Hi CO;rw[aG D]
  go_enter Tryz.func158,Tryz.ntmps158;rcases D with rfl | rfl
  all_goals
   go_wp2_with fail;refine(zJ5 b ⟨X,_,nm,nu,R,W⟩ sc ar _ (L.o.below (d.o _))).mono ?_;rintro e w1 ⟨rfl,I⟩;go_wp2_with fail
   go_ret2
   rw[O.o];exact⟨rfl,CX.after L.o (d.o _) I⟩
 have a0:¬G=0:=λh=>D (.inl h);have Z:¬G=1:=λh=>D (.inr h);have b0:(G==0)=false:=by rw[aF];exact a0
 have b1:(G==1)=false:=by rw[aF];exact Z
 by_cases K:G=2\/G=4\/G=12
 ·have O:Hi (CO sc ar ⟨X,G,nm,nu,R,W⟩=((DN sc ar nm.toList (AH sc nm.toList 0)).1,(DN sc ar nm.toList (AH sc nm.toList 0)).2,sc,ar)):=by unfold Hi CO;rw[aC D,aG K]
  clear D;go_enter Tryz.func158,Tryz.ntmps158;rcases K with rfl | rfl | rfl
  all_goals
   go_wp2_with fail
   go_region_with (first
    |(go_at_call 174;refine(zw6 b nm sc ar _ (L.o.below (by first | exact(d.o _).drew | exact d.o _))).mono ?_;rintro e w1 ⟨rfl,I,rfl⟩)
    |(go_at_call 173;refine(zD8 b nm _ sc ar _ (L.o.below (by first | exact below_drewN (d.o _).drew _ | exact below_drewN (d.o _) _))).mono ?_;rintro e w2 ⟨rfl,J⟩))
   all_goals
    go_wp2_with fail
    go_ret2
    rw[O.o];refine⟨rfl,CX.of L.o ?_⟩
    first
     | exact(below_drewN (d.o _).drew _).trans (J.mono sI)
     | exact(below_drewN (d.o _) _).trans (J.mono sI)
 by_cases Y:G=3\/G=13
 ·have O:Hi (CO sc ar ⟨X,G,nm,nu,R,W⟩=((DN sc ar nm.toList (AE ar nm.toList 0)).1,(DN sc ar nm.toList (AE ar nm.toList 0)).2,sc,ar)):=by unfold Hi CO;rw[aC D,aC K,aG Y]
  clear D K;go_enter Tryz.func158,Tryz.ntmps158;rcases Y with rfl | rfl
  all_goals
   go_wp2_with fail
   go_region_with (first
    |(go_at_call 175;refine(zD7 b nm sc ar _ (L.o.below (by first | exact(d.o _).drew | exact d.o _))).mono ?_;rintro e w1 ⟨rfl,I⟩;have c2:w1.cell? (aD w.heap.size 2)=some (.string nm):=(I.cell (p:=⟨w.heap.size,2,none⟩) (by simp)).trans (by simp[go_sem]))
    |(go_at_call 173;refine(zD8 b nm _ sc ar _ (L.o.below (by first | exact((d.o _).drew).trans (I.mono sI) | exact(d.o _).trans (I.mono sI)))).mono ?_;rintro e w2 ⟨rfl,J⟩))
   all_goals
    go_wp2_with fail
    go_ret2
    rw[O.o];refine⟨rfl,CX.of L.o ?_⟩
    first
     | exact(((d.o _).drew).trans (I.mono sI)).trans (J.mono (aH sI I.size))
     | exact((d.o _).trans (I.mono sI)).trans (J.mono (aH sI I.size))
 have O:Hi (CO sc ar ⟨X,G,nm,nu,R,W⟩=(-1,0,sc,ar)):=by unfold Hi CO;rw[aC D,aC K,aC Y]
 have b2:(G==2)=false:=by rw[aF];exact λh=>K (.inl h)
 have b4:(G==4)=false:=by rw[aF];exact λh=>K (.inr (.inl h))
 have a3:(G==12)=false:=by rw[aF];exact λh=>K (.inr (.inr h))
 have b3:(G==3)=false:=by rw[aF];exact λh=>Y (.inl h)
 have I:(G==13)=false:=by rw[aF];exact λh=>Y (.inr h)
 clear D K Y a0 Z;go_enter Tryz.func158,Tryz.ntmps158;go_wp2_with fail
 go_ret2
 rw[O.o];exact⟨rfl,CX.of L.o (d.o _)⟩
structure Rd where
 sc:List ByteArray
 ar:List (ByteArray×Nat)
 sy:List Int
 so:List Int
 si:List Nat
 nu:Nat->Bool
structure AZ(w:World)(b:Nat)(r:Rd):Prop where
 len:r.so.length=r.sy.length
 most:r.sy.length<=300
 sites:r.si.length<=12
 sy:∀(i:Nat) (h:i<r.sy.length),w.cell? ⟨b,16+i,none⟩=some (nI r.sy[i])
 so:∀(i:Nat) (h:i<r.so.length),w.cell? ⟨b,316+i,none⟩=some (nI r.so[i])
 si:∀(i:Nat) (h:i<r.si.length),w.cell? ⟨b,616+i,none⟩=some (nI r.si[i])
 found:w.cell? (aD b 628)=some (nI r.si.length)
 nu:∀d,d<25->w.cell? ⟨b,629+d,none⟩=some (.bool (r.nu d))
 room:∀o,16<=o->o<654->∃v,w.cell? (aD b o)=some v
structure CA(w:World)(b:Nat)(r:Rd):Prop where
 names:AI w b r.sc r.ar
 rest:AZ w b r
def AZ.keep{r:Rd}(h:AZ w b r)(D:we0 b w w1):AZ w1 b r :=
 ⟨h.len,h.most,h.sites,λi G=>by rw[D _ oM];exact h.sy i G,λi G=>by rw[D _ oM];exact h.so i G,λi G=>by rw[D _ oM];exact h.si i G,by rw[D _ oM];exact h.found,λd K=>by rw[D _ oM];exact h.nu d K,λo I J=>by rw[D _ I];exact h.room o I J⟩
def AZ.below{r:Rd}(h:AZ w b r)(d:b<w.heap.size)(D:Below w.heap.size w w1):AZ w1 b r :=
 h.keep (λo _=>D.cell (p:=⟨b,o,none⟩) d)
def CT(r:Rd)(i:Nat)(n:Nd):Int×Rd :=
 let s:=CO r.sc r.ar n
 if s.2.1≠0 then (s.2.1,r)
 else if FC n&&(DU n != r.nu (n.depth-1).toNat) then (42,r)
 else if DH n&&r.si.length==12 then (46,r)
 else (0,⟨s.2.2.1,s.2.2.2,r.sy++[s.1],r.so++[if DH n then (r.si.length:Int) else -1],if DH n then r.si++[i] else r.si,λd=>if d=n.depth.toNat then DQ n else r.nu d⟩)
def AI.hi(h:AI w b sc ar)(O:16<=o){u:Value}(I:w.cell? (aD b o)=some u)(v:Value):AI (w.setCell (aD b o) v) b sc ar:=by
 have L:=h.sl;have K:=h.al;have d:∀G,G<16->(w.setCell (aD b o) v).cell? ⟨b,G,none⟩=w.cell? ⟨b,G,none⟩:=λG J=>by rw[cs _ b o G _ _ I,aC oM]
 exact⟨by simpa using h.lt,h.sl,h.al,λi D=>by rw[d _ oM];exact h.str i D,λi D=>by rw[d _ oM];exact h.an i D,λi D=>by rw[d _ oM];exact h.av i D,by rw[d _ oM];exact h.sn,by rw[d _ oM];exact h.aln,λi D=>by rw[d _ D];exact h.room i D,λi=>by simpa using h.warm i⟩
def zg8{u v:Value}(D:w.cell? (aD b o)=some u)(h:∀d,16<=d->d<654->∃x,w.cell? ⟨b,d,none⟩=some x):∀d,16<=d->d<654->∃x,(w.setCell (aD b o) v).cell? ⟨b,d,none⟩=some x:=λd G I=>by
 rw[cs _ b o d _ _ D]
 split
 ·exact⟨_,rfl⟩
 exact h d G I
def AZ.nu_set{r:Rd}(h:AZ w b r){d:Nat}(K:d<25)(v:Bool):AZ (w.setCell ⟨b,629+d,none⟩ (.bool v)) b { r with nu:=λx=>if x=d then v else r.nu x }:=by
 have G:=h.nu d K;have L:=h.most;have R:=h.sites;have O:=h.len;refine⟨h.len,h.most,h.sites,λi D=>?_,λi D=>?_,λi D=>?_,?_,λx J=>?_,zg8 G h.room⟩
 ·have I:i<r.sy.length:=D
  rw[cs _ b _ _ _ _ G,aC oM];exact h.sy i D
 ·have I:i<r.so.length:=D
  rw[cs _ b _ _ _ _ G,aC oM];exact h.so i D
 ·have I:i<r.si.length:=D
  rw[cs _ b _ _ _ _ G,aC oM];exact h.si i D
 ·rw[cs _ b _ _ _ _ G,aC oM];exact h.found
 rw[cs _ b _ _ _ _ G];by_cases e:x=d
 ·subst e;simp
 rw[aC oM,h.nu x J];simp[e]
def AZ.push{r:Rd}(h:AZ w b r)(X:r.sy.length<300)(s t:Int):AZ ((w.setCell ⟨b,16+r.sy.length,none⟩ (nI s)).setCell ⟨b,316+r.sy.length,none⟩ (nI t)) b { r with sy:=r.sy++[s],so:=r.so++[t] }:=by
 obtain⟨O,I⟩:=h.room (16+r.sy.length) oM oM;obtain⟨Y,J⟩:=zg8 (v:=nI s) I h.room (316+r.sy.length) oM oM;have R:=h.most;have W:=h.sites;have K:=h.len
 have d:∀o,((w.setCell ⟨b,16+r.sy.length,none⟩ (nI s)).setCell ⟨b,316+r.sy.length,none⟩ (nI t)).cell? (aD b o)=if o=316+r.sy.length then some (nI t) else if o=16+r.sy.length then some (nI s) else w.cell? (aD b o):=λo=>by rw[cs _ b _ o _ _ J,cs _ b _ o _ _ I]
 refine⟨by simp[K],by simp;omega,h.sites,λi D=>?_,λi D=>?_,λi D=>?_,?_,λx L=>?_,zg8 J (zg8 I h.room)⟩
 ·have G:i<r.sy.length+1:=by simpa using D
  rw[d,aC oM];by_cases e:i=r.sy.length
  ·rw[aG oM];simp[e]
  rw[aC oM,h.sy i oM];simp[bU (show i<r.sy.length by omega)]
 ·have G:i<r.so.length+1:=by simpa using D
  rw[d];by_cases e:i=r.so.length
  ·rw[aG oM];simp[e]
  rw[aC oM,aC oM,h.so i oM];simp[bU (show i<r.so.length by omega)]
 ·have G:i<r.si.length:=D
  rw[d,aC oM,aC oM];exact h.si i D
 ·rw[d,aC oM,aC oM];exact h.found
 rw[d,aC oM,aC oM];exact h.nu x L
def AZ.site{r:Rd}{so:List Int}{t:Int}(h:AZ w b r)(I:r.so=so++[t])(i:Nat)(W:r.si.length<12) :
  AZ (((w.setCell ⟨b,316+so.length,none⟩ (nI r.si.length)).setCell ⟨b,616+r.si.length,none⟩ (nI i)).setCell (aD b 628) (nI ((r.si.length:Int)+1))) b { r with so:=so++[(r.si.length:Int)],si:=r.si++[i] }:=by
 have X:=h.most;have hl:=h.len;have hq:r.so.length=so.length+1:=by rw[I];simp
 obtain⟨Z,J⟩:=h.room (316+so.length) oM oM;have R:=zg8 (v:=nI r.si.length) J h.room;obtain⟨v1,K⟩:=R (616+r.si.length) oM oM;have O:=zg8 (v:=nI i) K R;obtain⟨v2,L⟩:=O 628 oM oM
 have d:∀o,(((w.setCell ⟨b,316+so.length,none⟩ (nI r.si.length)).setCell ⟨b,616+r.si.length,none⟩ (nI i)).setCell (aD b 628) (nI ((r.si.length:Int)+1))).cell? (aD b o)=if o=628 then some (nI ((r.si.length:Int)+1)) else if o=616+r.si.length then some (nI i) else if o=316+so.length then some (nI r.si.length) else w.cell? (aD b o):=λo=>by rw[cs _ b _ o _ _ L,cs _ b _ o _ _ K,cs _ b _ o _ _ J]
 refine⟨by simp;omega,X,by simp;omega,λj D=>?_,λj D=>?_,λj D=>?_,?_,λx Y=>?_,zg8 L O⟩
 ·have G:j<r.sy.length:=D
  rw[d,aC oM,aC oM,aC oM];exact h.sy j D
 ·have G:j<so.length+1:=by simpa using D
  rw[d,aC oM,aC oM];by_cases e:j=so.length
  ·rw[aG oM];simp[e]
  rw[aC oM,h.so j oM];simp[I,bU (show j<so.length by omega)]
 ·have G:j<r.si.length+1:=by simpa using D
  rw[d,aC oM];by_cases e:j=r.si.length
  ·rw[aG oM];simp[e]
  rw[aC oM,aC oM,h.si j oM];simp[bU (show j<r.si.length by omega)]
 ·rw[d,aG rfl];simp
 rw[d,aC oM,aC oM,aC oM];exact h.nu x Y
def AZ.other{r:Rd}(h:AZ w b r)(sc:List ByteArray)(ar:List (ByteArray×Nat)):AZ w b { r with sc:=sc,ar:=ar } :=
 ⟨h.len,h.most,h.sites,h.sy,h.so,h.si,h.found,h.nu,h.room⟩
def AZ.site_names{r:Rd}{so:List Int}{t:Int}(h:AZ w b r)(L:AI w b sc ar)(d:r.so=so++[t])(i:Nat)(K:r.si.length<12) :
  AI (((w.setCell ⟨b,316+so.length,none⟩ (nI r.si.length)).setCell ⟨b,616+r.si.length,none⟩ (nI i)).setCell (aD b 628) (nI ((r.si.length:Int)+1))) b sc ar:=by
 have W:=h.most;have X:=h.len;have Z:r.so.length=so.length+1:=by rw[d];simp
 obtain⟨R,D⟩:=h.room (316+so.length) oM oM;have I:=zg8 (v:=nI r.si.length) D h.room;obtain⟨v1,G⟩:=I (616+r.si.length) oM oM;have J:=zg8 (v:=nI i) G I;obtain⟨Y,O⟩:=J 628 oM oM;exact((L.hi oM D _).hi oM G _).hi oM O _
structure NdC(w:World)(g:Nat)(n:Nd):Prop where
 lt:g<w.heap.size
 c0:w.cell? (aD g 0)=some (nI n.depth)
 c1:w.cell? (aD g 1)=some (nI n.kind)
 c2:w.cell? (aD g 2)=some (.string n.name)
 c3:w.cell? (aD g 3)=some (nI n.num)
 c4:w.cell? (aD g 4)=some (nI n.op)
 c5:w.cell? (aD g 5)=some (nI n.pos)
def NdC.below{g:Nat}{n:Nd}(h:NdC w g n)(d:Below w.heap.size w w1):NdC w1 g n :=
 have k:∀o,w1.cell? (aD g o)=w.cell? (aD g o):=λo=>d.cell (p:=⟨g,o,none⟩) h.lt
 ⟨lL_ h.lt d.size,(k 0).trans h.c0,(k 1).trans h.c1,(k 2).trans h.c2,(k 3).trans h.c3,(k 4).trans h.c4,(k 5).trans h.c5⟩
def NdC.beside{g:Nat}{n:Nd}(h:NdC w g n)(D:g≠b)(d:AB b w w1):NdC w1 g n :=
 have k:∀o,w1.cell? (aD g o)=w.cell? (aD g o):=λo=>d.cell D h.lt
 ⟨lL_ h.lt d.low.size,(k 0).trans h.c0,(k 1).trans h.c1,(k 2).trans h.c2,(k 3).trans h.c3,(k 4).trans h.c4,(k 5).trans h.c5⟩
def AB.trans{w2:World}(h:AB b w w1)(G:AB b w1 w2):AB b w w2 :=
 ⟨h.low.trans G.low,λq D d=>(G.block q D (lL_ d h.low.size)).trans (h.block q D d)⟩
end Go.Proofs.YthoegkcpmgalbaaGreatDoor
