import Derived.Test.YtpongdpnbclchaaGreatDoorKCrshape
set_option maxHeartbeats 8000000
set_option linter.all false
namespace Go.Proofs.YtpongdpnbclchaaGreatDoor
variable{S st:List AW}{k:Nat}
section
structure wd8(st S:List AW):Prop where
 kinds:∀h∈st,h.1<16
 same:S=st\/(∃k c,st=S++[(k,c)]/\BJ k=false)
theorem yx0(h:k<16):AT k=DT k:=by
 have:∀j:Fin 16,AT ((j:Nat):Int)=DT j:=by decide
 exact this ⟨k,h⟩
theorem zY5(h:BJ k=false):AT k<=0:=by unfold BJ at h;simp at h;omega
theorem zY6(hk:k<16)(h:BJ k=false)(c:Nat):BQ k c=0:=by
 have h3:∀j:Fin 16,BJ j=false->(j:Nat)≠9/\rH0 j=0/\rH1 j=0/\rH2 j=0:=by decide
 obtain⟨a,b,d,e⟩:=h3 ⟨k,hk⟩ h;unfold BQ;rw[if_neg a]
 split
 ·exact b
 split
 ·exact d
 split
 ·exact e
 rfl
theorem zD6(o h:Nat)(hh:3<=h):BQ o h=if o=9 then 2 else 0:=by unfold BQ;rw[if_neg (by omega:¬h=0),if_neg (by omega:¬h=1),if_neg (by omega:¬h=2)]
theorem zs1:∀o k:Fin 16,∀h:Fin 4,EN ((o:Nat):Int) ((h:Nat):Int) ((k:Nat):Int)=(BQ o h==AO k):=by decide +kernel
theorem zY7(o h k:Nat)(hh:3<=h):EN o h k=EN o 3 k:=by
 unfold EN;obtain⟨a,b⟩:=zP3 o;have e1:((h:Int)==0)=false:=by rw[beq_eq_false_iff_ne];omega
 have e2:((h:Int)==1)=false:=by rw[beq_eq_false_iff_ne];omega
 have e3:((h:Int)==2)=false:=by rw[beq_eq_false_iff_ne];omega
 rw[e1,e2,e3,decide_eq_false (by omega:¬(h:Int)<AT o),decide_eq_false (by omega:¬(3:Int)<AT o)];rfl
theorem zS9(o h k:Nat)(ho:o<16)(hk:k<16):EN o h k=(BQ o h==AO k):=by
 by_cases hh:h<4
 ·exact zs1 ⟨o,ho⟩ ⟨k,hk⟩ ⟨h,hh⟩
 rw[zY7 o h k (by omega)];have:=zs1 ⟨o,ho⟩ ⟨k,hk⟩ ⟨3,by omega⟩;rw[zD6 o h (by omega),<-zD6 o 3 (by omega)];exact this
theorem yx1(k:Nat)(hk:k<16)(num op:Int)(hn:num<=9223372036854775807):wj8 k num op=(decide (0<=num)&&decide (num<=wh8 k)&&decide (wj0 k<=op)&&decide (op<=wj1 k)):=by
 have h16:k=0\/k=1\/k=2\/k=3\/k=4\/k=5\/k=6\/k=7\/k=8\/k=9\/k=10\/k=11\/k=12\/k=13\/k=14\/k=15:=oM;rcases h16 with rfl | rfl | rfl | rfl | rfl | rfl | rfl | rfl | rfl | rfl | rfl | rfl | rfl | rfl | rfl | rfl
 all_goals (rw[Bool.eq_iff_iff];simp[wj8,wh8,wj0,wj1];omega)
theorem zT0(n:Nd)(hn:n.num<=9223372036854775807):CF n.kind n.name.toList n.num n.op=EG n:=by
 unfold CF EG;by_cases h:0<=n.kind/\n.kind<=15
 ·rw[decide_eq_true h.1,decide_eq_true h.2]
  obtain⟨k,hk⟩:=Int.eq_ofNat_of_zero_le h.1;have hk16:k<16:=oM;rw[hk];simp only[Int.toNat_natCast,Bool.true_and];unfold wh4
  have hnm:wa0 (k:Int)=wc1 k:=by
   have:∀j:Fin 16,wa0 ((j:Nat):Int)=wc1 j:=by decide
   exact this ⟨k,hk16⟩
  rw[hnm,yx1 k hk16 _ _ hn]
 have:(decide (0<=n.kind)&&decide (n.kind<=15))=false:=by rw[Bool.eq_false_iff];simp;omega
 rw[this];rfl
theorem zT1(h:∀x∈st,x.1<16):CA st=AX st:=by
 unfold CA AX
 induction st with
 | nil=>rfl
 | cons a t ih =>
  rw[List.any_cons,List.any_cons,ih (λx hx=>h x (List.mem_cons_of_mem _ hx)),yx0 (h a List.mem_cons_self)]
theorem zT2{c:Nat}(h:BJ k=false):AX (S++[(k,c)])=AX S:=by have:=zY5 h;unfold AX;rw[List.any_append];simp only[List.any_cons,List.any_nil,Bool.or_false];rw[decide_eq_false (by show ¬((c:Int)<AT k);omega),Bool.or_false]
theorem wd8.wants(h:wd8 st S)(m:Nat)(hm:m<=st.length):CA (st.drop m)=AX (S.drop m):=by
 rw[zT1 (λx hx=>h.kinds x (List.mem_of_mem_drop hx))];rcases h.same with rfl | ⟨k,c,rfl,ho⟩
 ·rfl
 by_cases hc:m<=S.length
 ·rw[List.drop_append_of_le_length hc,zT2 ho]
 rw[List.length_append]at hm;simp only[List.length_cons,List.length_nil]at hm;rw[List.drop_of_length_le (by rw[List.length_append];simp only[List.length_cons,List.length_nil];omega),List.drop_of_length_le (by omega)]
theorem zY8(h:k<16):wh9 k=(AO k==1)/\wc6 k=(AO k==2):=by
 have:∀j:Fin 16,wh9 j=(AO j==1)/\wc6 ((j:Nat):Int)=(AO j==2):=by decide
 exact this ⟨k,h⟩
theorem zs2{m:Nat}(h:m<S.length):BW (S.take (m+1))=S.take m++[(S[m].1,S[m].2+1)]:=by
 have e:S.take (m+1)=S.take m++[S[m]]:=List.take_succ_eq_append_getElem h;have l:(S.take m).length=m:=by rw[List.length_take];omega
 rw[zs5 (k:=m) (by rw[List.length_take];omega)];have g:(S.take (m+1))[m]'(by rw[List.length_take];omega)=S[m]:=List.getElem_take;rw[g,e,List.set_append_right _ _ (by omega),l,Nat.sub_self];rfl
theorem wd8.len(h:wd8 st S):S.length<=st.length:=by
 rcases h.same with rfl | ⟨k,c,rfl,_⟩
 ·exact nR_ _
 rw[List.length_append];omega
theorem wd8.at(h:wd8 st S){m:Nat}(hm:m<S.length):st.take m=S.take m/\st.getD m (0,0)=S[m]:=by
 rcases h.same with rfl | ⟨k,c,rfl,_⟩
 ·exact⟨rfl,by rw[List.getD_eq_getElem?_getD,List.getElem?_eq_getElem hm];rfl⟩
 refine⟨List.take_append_of_le_length oM,?_⟩;rw[List.getD_eq_getElem?_getD,List.getElem?_append_left hm,List.getElem?_eq_getElem hm];rfl
theorem wd8.push{A:List AW}(hk:k<16)(hA:∀h∈A,h.1<16):wd8 (A++[(k,0)]) (if BJ k then A++[(k,0)] else A):=by
 refine⟨λh hh=>?_,?_⟩
 ·rcases List.mem_append.1 hh with hh | hh
  ·exact hA h hh
  simp at hh;subst hh;exact hk
 cases ho:BJ k
 ·exact .inr ⟨k,0,rfl,ho⟩
 exact .inl rfl
theorem zj2{g:Bool}{d:Int}:DN st g d k=true↔(0<=d-1/\d-1<=st.length)/\CA (st.drop (d-1).toNat)=false/\CR st g (d-1).toNat (AO k)=true:=by
 unfold DN;simp only[Bool.and_eq_true,decide_eq_true_eq,Bool.not_eq_true'];constructor
 ·rintro⟨⟨⟨a,b⟩,c⟩,d⟩;exact⟨⟨a,b⟩,c,d⟩
 rintro⟨⟨a,b⟩,c,d⟩;exact⟨⟨⟨a,b⟩,c⟩,d⟩
theorem yC8(ns:List Nd)(hns:∀n∈ns,n.num<=9223372036854775807):∀(i:Nat) (st S:List AW) (g:Bool),wd8 st S->EH ns i st g=BR ns i S g:=by
 induction ns with
 | nil =>
  intro i st S g h;have:=h.wants 0 (zL_ _);rw[List.drop_zero,List.drop_zero]at this;rw[EH,BR,this]
 | cons n ns ih =>
  intro i st S g h;have ih':=ih (λx hx=>hns x (List.mem_cons_of_mem _ hx));have hff:=zT0 n (hns n List.mem_cons_self);clear ih;rw[EH];by_cases hf:EG n=false
  ·rw[if_pos hf]
   by_cases hw:AX (S.drop (n.depth-1).toNat)=true
   ·rw[zp5 hw]
   rw[zm9 ⟨rfl,by simpa using hw⟩ (.inr (by rw[hff];exact hf))]
  rw[if_neg hf];have hf':EG n=true:=by simpa using hf
  obtain⟨k0,k15⟩:=zi0 hf';obtain⟨k,hk⟩:=Int.eq_ofNat_of_zero_le k0;have hk16:k<16:=oM;have ekd:n.kind.toNat=k:=oM;rw[ekd];by_cases hw:AX (S.drop (n.depth-1).toNat)=true
  ·rw[zp5 hw,if_pos]
   rw[Bool.eq_false_iff,Ne,zj2];rintro⟨⟨a,b⟩,c,d⟩;rw[h.wants _ (by omega),hw]at c;cases c
  have hw':AX (S.drop (n.depth-1).toNat)=false:=by simpa using hw
  by_cases hd:n.depth≠(S.take (n.depth-1).toNat).length+1
  ·rw[zm9 ⟨rfl,hw'⟩ (.inl hd),if_pos]
   rw[Bool.eq_false_iff,Ne,zj2];rintro⟨⟨a,b⟩,c,d⟩;rw[List.length_take]at hd;rcases h.same with rfl | ⟨lk,lc,rfl,ho⟩
   ·omega
   rw[List.length_append]at b;simp only[List.length_cons,List.length_nil]at b;have em:(n.depth-1).toNat=S.length+1:=oM;rw[em]at d;unfold CR at d;rw[if_neg (by omega)]at d;have eg:(S++[(lk,lc)]).getD (S.length+1-1) (0,0)=(lk,lc):=by simp[List.getD_eq_getElem?_getD]
   rw[eg]at d;simp only[]at d;rw[zY6 (h.kinds (lk,lc) (by simp)) ho,beq_iff_eq]at d;have:=zE3 hk16;omega
  have hd':n.depth=(S.take (n.depth-1).toNat).length+1:=by simpa using hd
  have hle:(n.depth-1).toNat<=S.length:=by rw[List.length_take]at hd';omega
  have hlen:=h.len;have hl1:(S.take (n.depth-1).toNat).length=(n.depth-1).toNat:=by rw[List.length_take];omega
  have hwb:CA (st.drop (n.depth-1).toNat)=false:=by rw[h.wants _ (by omega)];exact hw'
  generalize hm:(n.depth-1).toNat=m at *;have hdm:n.depth=(m:Int)+1:=oM
  cases m with
  | zero =>
   have h1:n.depth=1:=oM;rw[zP1 (by rw[hm];exact⟨rfl,hw'⟩) h1 (by rw[hff];exact hf'),ekd];obtain⟨e1,e2⟩:=zY8 hk16;rw[hk,e1,e2];have hs:AO k=1\/AO k=2\/(AO k≠1/\AO k≠2):=oM
   have hput:DN st g n.depth k=CR st g 0 (AO k):=by
    rw[Bool.eq_iff_iff,zj2,hm,h1];constructor
    ·exact λx=>x.2.2
    exact λx=>⟨⟨by omega,by omega⟩,hwb,x⟩
   rw[hput];unfold CR;rw[if_pos rfl];have hb:DQ g n=(g||AO k==2):=by unfold DQ;rw[if_pos h1,ekd]
   have hpp:AP st (n.depth-1).toNat k=[(k,0)]:=by rw[hm];rfl
   rcases hs with hs | hs | ⟨hs1,hs2⟩
   ·rw[hs]at hb ⊢
    cases g
    ·simp only[Bool.not_false]
     rw[if_neg (by decide),if_neg (by omega),if_neg (by decide),hb];rw[hm,ekd] at *;exact ih' _ _ _ _ (wd8.push (A:=[]) hk16 sI)
    rfl
   ·rw[hs]at hb ⊢
    cases g
    ·rw[if_neg (by decide),if_neg (by omega),if_neg (by decide),hb]
     rw[hm,ekd] at *;exact ih' _ _ _ _ (wd8.push (A:=[]) hk16 sI)
    rw[if_neg (by decide),if_neg (by omega),if_neg (by decide),hb];rw[hm,ekd] at *;exact ih' _ _ _ _ (wd8.push (A:=[]) hk16 sI)
   have b1:(AO k==1)=false:=by rw[beq_eq_false_iff_ne];exact hs1
   have b2:(AO k==2)=false:=by rw[beq_eq_false_iff_ne];exact hs2
   rw[b1,b2]
   cases g<;>rfl
  | succ m =>
   have hmS:m<S.length:=oM;obtain⟨t1,t2⟩:=h.at hmS
   have hkS:S[m].1<16:=by
    have:S[m]∈st:=by
     rcases h.same with e | ⟨a,b,e,_⟩
     ·rw[<-e];exact List.getElem_mem _
     rw[e];exact List.mem_append_left _ (List.getElem_mem _)
    exact h.kinds _ this
   have hget:(S.take (m+1)).getD ((S.take (m+1)).length-1) (0,0)=S[m]:=by rw[hl1,Nat.add_sub_cancel,List.getD_eq_getElem?_getD,List.getElem?_take,if_pos (by omega),List.getElem?_eq_getElem hmS];rfl
   rw[zZ9 (S1:=S.take (m+1)) (by rw[hm];exact⟨rfl,hw'⟩) (λe=>by rw[e]at hl1;simp at hl1) (by rw[hl1,hdm]) (by rw[hff];exact hf'),hget,ekd]
   have hput:DN st g n.depth k=(BQ S[m].1 S[m].2==AO k):=by
    rw[Bool.eq_iff_iff,zj2,hm,hdm];unfold CR;rw[if_neg (by omega),Nat.add_sub_cancel,t2];constructor
    ·exact λx=>x.2.2
    exact λx=>⟨⟨by omega,by omega⟩,hwb,x⟩
   rw[hput,hk,zS9 _ _ _ hkS hk16];by_cases hx:(BQ S[m].1 S[m].2==AO k)=false
   ·rw[if_pos hx,if_pos hx]
   rw[if_neg hx,if_neg hx];by_cases h24:24<n.depth
   ·rw[if_pos h24,if_pos h24]
   rw[if_neg h24,if_neg h24];have hb:DQ g n=g:=by unfold DQ;rw[if_neg (by omega)]
   have hpp:AP st (m+1) k=BW (S.take (m+1))++[(k,0)]:=by unfold AP;rw[if_neg (by omega),Nat.add_sub_cancel,t1,t2,zs2 hmS,List.append_assoc];rfl
   rw[hb,hpp];refine ih' _ _ _ _ (wd8.push hk16 ?_);intro x hx';rw[zs2 hmS]at hx';rcases List.mem_append.1 hx' with hx' | hx'
   ·refine h.kinds x ?_
    have:x∈S:=List.mem_of_mem_take hx';rcases h.same with e | ⟨a,b,e,_⟩
    ·rw[<-e];exact this
    rw[e];exact List.mem_append_left _ this
   simp at hx';subst hx';exact hkS
theorem zz0(ns:List Nd)(hns:∀n∈ns,n.Ok):CG ns=BD ns:=by unfold CG BD;rw[yC8 ns (λn hn=>(hns n hn).num) 0 [] [] false ⟨λh hh=>absurd hh (by simp),.inl rfl⟩]
end
section
open Go.RowKit
abbrev DL(n:Nd):Value:=.agg #[nI n.depth,nI n.kind,.string n.name,nI n.num,nI n.op,nI n.pos]
def EW(n:Nd):Bool:=decide (10<=n.kind)
def DP(n:Nd):Bool:=if n.kind=11 then false else if n.kind=14 then n.op==1 else if n.kind=15 then decide (n.op<=7) else true
def DC(n:Nd):Bool:=if n.kind=3\/n.kind=13\/n.kind=5 then true else (n.op==6||n.op==7)
def DM(n:Nd):Bool:=if n.kind=5\/n.kind=7\/n.kind=8 then false else if n.kind=14 then n.op==1 else if n.kind=15 then decide (n.op<14) else true
def BP(n:Nd):Bool:=if n.kind=10\/n.kind=12\/n.kind=13 then true else if n.kind=14 then n.op==1 else if n.kind=15 then decide (3<=n.op)&&decide (n.op<=7) else false
def DG(n:Nd):Bool:=if n.kind=11 then true else if n.kind=14 then n.op==2 else if n.kind=15 then decide (8<=n.op)&&decide (n.op<=15) else false
def BN(n:Nd):Bool:=n.kind==3||n.kind==13||n.kind==5||(n.kind==15&&(n.op==6||n.op==7))
def BA(n:Nd):Int:=if n.kind=2\/n.kind=4\/n.kind=12 then 1 else if n.kind=3\/n.kind=13 then 2 else 0
theorem zY9(n:Nd)(w:World):Calls Tryz.prog 144 #[DL n] w λe w'=>e=.returned (.bool (EW n))/\Below w.heap.size w w':=by go_enter Tryz.func144,Tryz.ntmps144;go_wp2;go_ret;exact⟨rfl,(Below.refl _ _).alloc (nR_ _) _⟩
theorem zJ1(n:Nd)(w:World):Calls Tryz.prog 145 #[DL n] w λe w'=>e=.returned (.bool (DP n))/\Below w.heap.size w w':=by
 go_enter Tryz.func145,Tryz.ntmps145;go_wp2
 all_goals first
  |(exfalso;simp_all;done)
  |(go_ret;refine⟨za4 ?_,(Below.refl _ _).alloc (Nat.le_refl _) _⟩;simp only[beq_iff_eq,beq_eq_false_iff_ne] at *;simp[DP, *];done)
theorem zZ0(n:Nd)(w:World):Calls Tryz.prog 146 #[DL n] w λe w'=>e=.returned (.bool (DC n))/\Below w.heap.size w w':=by
 go_enter Tryz.func146,Tryz.ntmps146;go_wp2
 all_goals first
  |(exfalso;simp_all;done)
  |(go_ret;refine⟨za4 ?_,(Below.refl _ _).alloc (Nat.le_refl _) _⟩;simp only[beq_iff_eq,beq_eq_false_iff_ne] at *;simp[DC, *];done)
theorem zZ1(n:Nd)(w:World):Calls Tryz.prog 147 #[DL n] w λe w'=>e=.returned (.bool (DM n))/\Below w.heap.size w w':=by
 go_enter Tryz.func147,Tryz.ntmps147;go_wp2
 all_goals first
  |(exfalso;simp_all;done)
  |(go_ret;refine⟨za4 ?_,(Below.refl _ _).alloc (Nat.le_refl _) _⟩;simp only[beq_iff_eq,beq_eq_false_iff_ne] at *;simp[DM, *];done)
theorem zJ2(n:Nd)(w:World):Calls Tryz.prog 81 #[DL n] w λe w'=>e=.returned (.bool (BP n))/\Below w.heap.size w w':=by
 go_enter Tryz.func81,Tryz.ntmps81;go_wp2
 all_goals first
  |(exfalso;simp_all;done)
  |(go_ret;refine⟨za4 ?_,(Below.refl _ _).alloc (Nat.le_refl _) _⟩;simp only[beq_iff_eq,beq_eq_false_iff_ne] at *;simp[BP, *];done)
  |(go_ret;refine⟨za4 ?_,(Below.refl _ _).alloc (Nat.le_refl _) _⟩;simp only[beq_iff_eq,beq_eq_false_iff_ne] at *;simp[BP, *];omega)
theorem zZ2(n:Nd)(w:World):Calls Tryz.prog 83 #[DL n] w λe w'=>e=.returned (.bool (DG n))/\Below w.heap.size w w':=by
 go_enter Tryz.func83,Tryz.ntmps83;go_wp2
 all_goals first
  |(exfalso;simp_all;done)
  |(go_ret;refine⟨za4 ?_,(Below.refl _ _).alloc (Nat.le_refl _) _⟩;simp only[beq_iff_eq,beq_eq_false_iff_ne] at *;simp[DG, *];done)
  |(go_ret;refine⟨za4 ?_,(Below.refl _ _).alloc (Nat.le_refl _) _⟩;simp only[beq_iff_eq,beq_eq_false_iff_ne] at *;simp[DG, *];omega)
theorem zZ3(n:Nd)(w:World):Calls Tryz.prog 46 #[DL n] w λe w'=>e=.returned (.bool (BN n))/\Below w.heap.size w w':=by
 go_enter Tryz.func46,Tryz.ntmps46;go_wp2
 all_goals first
  |(exfalso;simp_all;done)
  |(go_ret;refine⟨za4 ?_,(Below.refl _ _).alloc (Nat.le_refl _) _⟩;(try simp only[beq_iff_eq,beq_eq_false_iff_ne] at *);simp[BN, *];done)
theorem zT3(n:Nd)(w:World):Calls Tryz.prog 44 #[DL n] w λe w'=>e=.returned (nI (BA n))/\Below w.heap.size w w':=by
 go_enter Tryz.func44,Tryz.ntmps44;go_wp2
 all_goals first
  |(exfalso;simp_all;done)
  |(go_ret;refine⟨zl6 ?_,(Below.refl _ _).alloc (Nat.le_refl _) _⟩;simp only[beq_iff_eq,beq_eq_false_iff_ne] at *;simp[BA, *];done)
end
section
open Go.RowKit
def AG:List ByteArray->List UInt8->Nat->Int
 | [],_,_ => -1
 | a::t,v,k=>if v==a.toList then (k:Int) else AG t v (k+1)
structure wc0(w:World)(b o:Nat)(l:List ByteArray):Prop where
 lt:b<w.heap.size
 c:∀(i:Nat) (h:i<l.length),w.cell? ⟨b,o+i,none⟩=some (.string l[i])
theorem wc0.below{w w1:World}{b o:Nat}{l:List ByteArray}(h:wc0 w b o l)(hb:Below w.heap.size w w1):wc0 w1 b o l :=
 ⟨lL_ h.lt hb.size,λi hi=>(hb.cell (p:=⟨b,o+i,none⟩) h.lt).trans (h.c i hi)⟩
theorem zZ4(b o cap:Nat)(l:List ByteArray)(v:ByteArray)(w:World)(h:wc0 w b o l)(hl:l.length<=1000) :
  Calls Tryz.prog 162 #[.slice (sA b o) l.length cap,.string v] w λe w'=>e=.returned (nI (AG l v.toList 0))/\w'=w:=by
 have HC:Hi _:=h.c;have hlt:=h.lt;have hl1:(l.length:Int)<=1000:=oM;clear h;have hl2:l.length<9223372036854775807:=oM;go_enter Tryz.func162,Tryz.ntmps162;go_wp2_with fail
 go_loop [8] (λt=>∃k:Nat,k<=l.length/\t=nI k/\Hi (AG l v.toList 0=AG (l.drop k) v.toList k)) (λt=>l.length-(intOf t).toNat)
 case atStart=>exact⟨0,by omega,rfl,by unfold Hi;rw[List.drop_zero]⟩
 obtain⟨k,hk,rfl,hr⟩:=hrel;by_cases hlt2:k<l.length
 ·have c:=HC.o k hlt2
  have hst:AG (l.drop k) v.toList k=if v.toList==l[k].toList then (k:Int) else AG (l.drop (k+1)) v.toList (k+1):=by rw[List.drop_eq_getElem_cons hlt2,AG]
  rw[hst]at hr;clear hst;generalize l[k]=a at *;cases hq:(v.toList==a.toList)
  ·rw[hq,if_neg (by simp)]at hr
   go_wp2_with fail
   go_round
   case rel=>exact⟨k+1,by omega,by go_num,hr⟩
   case measure=>simp[intOf];omega
  rw[hq,if_pos rfl]at hr;go_wp2_with fail;go_ret;exact⟨zl6 hr.o.symm,rfl⟩
 have HE:Hi (AG l v.toList 0 = -1):=by unfold Hi;rw[hr.o,List.drop_of_length_le (by omega)];rfl
 clear hr;go_wp2_with fail;go_ret;exact⟨zl6 HE.o.symm,rfl⟩
structure AH(w:World)(b:Nat)(sc:List ByteArray)(ar:List (ByteArray×Nat)):Prop where
 lt:b<w.heap.size
 sl:sc.length<=8
 al:ar.length<=3
 str:∀(i:Nat) (h:i<sc.length),w.cell? (aD b i)=some (.string sc[i])
 an:∀(i:Nat) (h:i<ar.length),w.cell? ⟨b,8+i*2,none⟩=some (.string ar[i].1)
 av:∀(i:Nat) (h:i<ar.length),w.cell? ⟨b,8+i*2+1,none⟩=some (nI ar[i].2)
 sn:w.cell? (aD b 14)=some (nI sc.length)
 aln:w.cell? (aD b 15)=some (nI ar.length)
 room:∀i,i<16->∃v,w.cell? (aD b i)=some v
 warm:∀i,w.frozen? (aD b i)=false
theorem zw6(b:Nat)(s:ByteArray)(sc:List ByteArray)(ar:List (ByteArray×Nat))(w:World)(h:AH w b sc ar) :
  Calls Tryz.prog 154 #[pA b 0,.string s] w λe w'=>e=.returned (nI (AG sc s.toList 0))/\∃n,w'=w.drewN n:=by
 have c:=h.sn;have hl:=h.sl;have hl1:(sc.length:Int)<=8:=oM;have hlt:=h.lt;have HS:Hi (∀n,wc0 (w.drewN n) b 0 sc):=λn=>wc0.below ⟨h.lt,λi hi=>by rw[Nat.zero_add];exact h.str i hi⟩ (below_drewN (Below.refl _ _) n);clear h;go_enter Tryz.func154,Tryz.ntmps154;go_wp2_with fail
 go_quiet ((go_at_call 162;exact Calls.quiet_of_same (zZ4 b 0 _ sc s _ (HS.o _) oM)))
 go_wp2_with fail;go_ret;exact⟨rfl,_,rfl⟩
def AF:List (ByteArray×Nat)->List UInt8->Nat->Int
 | [],_,_ => -1
 | a::t,v,k=>if a.1.toList==v then (k:Int) else AF t v (k+1)
structure wg0(w:World)(b o:Nat)(l:List (ByteArray×Nat)):Prop where
 lt:b<w.heap.size
 c0:∀(i:Nat) (h:i<l.length),w.cell? ⟨b,o+i*2,none⟩=some (.string l[i].1)
 c1:∀(i:Nat) (h:i<l.length),w.cell? ⟨b,o+i*2+1,none⟩=some (nI l[i].2)
theorem wg0.below{w w1:World}{b o:Nat}{l:List (ByteArray×Nat)}(h:wg0 w b o l)(hb:Below w.heap.size w w1):wg0 w1 b o l :=
 ⟨lL_ h.lt hb.size,λi hi=>(hb.cell (p:=⟨b,o+i*2,none⟩) h.lt).trans (h.c0 i hi),λi hi=>(hb.cell (p:=⟨b,o+i*2+1,none⟩) h.lt).trans (h.c1 i hi)⟩
theorem zJ3(q:Nat)(a s:ByteArray)(n:Nat)(w:World)(hc:w.cell? (aD q 0)=some (.string s))(hq:q<w.heap.size) :
  Calls Tryz.prog 164 #[.agg #[.string a,nI n],pA q 0] w λe w'=>e=.returned (.bool (a.toList==s.toList))/\Below w.heap.size w w':=by
 have hne:¬q=w.heap.size:=oM;go_enter Tryz.func164,Tryz.ntmps164;go_wp2_with fail;go_ret;exact⟨rfl,(Below.refl _ _).alloc (nR_ _) _⟩
theorem zz1(b o cap q:Nat)(l:List (ByteArray×Nat))(s:ByteArray)(w:World)(h:wg0 w b o l)(hl:l.length<=1000)(hc:w.cell? (aD q 0)=some (.string s))(hq:q<w.heap.size) :
  Calls Tryz.prog 163 #[.slice (sA b o) l.length cap,.func (.func 164) #[] #[pA q 0]] w λe w'=>e=.returned (nI (AF l s.toList 0))/\Below w.heap.size w w':=by
 have hlt:=h.lt;have hl1:(l.length:Int)<=1000:=oM;have HA:Hi _:=h;clear h;go_enter Tryz.func163,Tryz.ntmps163;go_wp2_with fail;go_loopw [8] (λt wr=>∃k:Nat,k<=l.length/\t=nI k/\Hi (AF l s.toList 0=AF (l.drop k) s.toList k)/\Hi (Below w.heap.size w wr)) (λt _=>l.length-(intOf t).toNat)
 case atStart=>exact⟨0,by omega,rfl,by unfold Hi;rw[List.drop_zero],Below.refl _ _⟩
 obtain⟨k,hk,rfl,hr,HB⟩:=hrel;have hz:=HB.o.size;by_cases hlt2:k<l.length
 ·have c0:=(HA.o.below HB.o).c0 k hlt2
  have c1:=(HA.o.below HB.o).c1 k hlt2;have hc':wr.cell? (aD q 0)=some (.string s):=(HB.o.cell (p:=⟨q,0,none⟩) hq).trans hc
  have hst:AF (l.drop k) s.toList k=if l[k].1.toList==s.toList then (k:Int) else AF (l.drop (k+1)) s.toList (k+1):=by rw[List.drop_eq_getElem_cons hlt2,AF]
  rw[hst]at hr;clear hst;generalize l[k].1=a at *;generalize l[k].2=an at *;go_wp2_with fail;refine mq (zJ3 q a s an _ hc' oM) λw1 hb1=>?_;have HB1:=hid (HB.o.trans (hb1.mono hz));clear hb1;cases hq2:(a.toList==s.toList)
  ·rw[hq2,if_neg (by simp)]at hr
   go_wp2_with fail;go_roundw
   case rel=>exact⟨k+1,by omega,by go_num,hr,HB1⟩
   case measure=>simp[intOf];omega
  rw[hq2,if_pos rfl]at hr;go_wp2_with fail;go_ret;exact⟨zl6 hr.o.symm,HB1.o⟩
 have HE:Hi (AF l s.toList 0 = -1):=by unfold Hi;rw[hr.o,List.drop_of_length_le (by omega)];rfl
 clear hr;go_wp2_with fail;go_ret;exact⟨zl6 HE.o.symm,HB.o⟩
theorem zD7(b:Nat)(s:ByteArray)(sc:List ByteArray)(ar:List (ByteArray×Nat))(w:World)(h:AH w b sc ar) :
  Calls Tryz.prog 155 #[pA b 0,.string s] w λe w'=>e=.returned (nI (AF ar s.toList 0))/\Below w.heap.size w w':=by
 have c:=h.aln;have hl:=h.al;have hl1:(ar.length:Int)<=3:=oM;have hlt:=h.lt;have HA:Hi (wg0 w b 8 ar):=⟨h.lt,h.an,h.av⟩;have hne:¬b=w.heap.size:=oM;clear h;have hmf:∀(fn:Fn) (first cap:Array Value) (w:World),(Instr.makeFunc fn first cap).run Tryz.prog w=.ok (.func fn first cap) w:=λ_ _ _ _=>rfl;go_enter Tryz.func155,Tryz.ntmps155;go_wp2_with fail
 go_region_with (go_at_call 163;refine mq (zz1 b 8 _ w.heap.size ar s _ (HA.o.below (by first | exact(Below.refl _ _).alloc (Nat.le_refl _) _ | exact((Below.refl _ _).alloc (Nat.le_refl _) _).drew)) oM (by simp[go_sem]) (by simp)) λw1 hb1=>?_)
 all_goals
  go_wp2_with fail;go_ret;refine⟨rfl,?_⟩
  first
   | exact((Below.refl _ _).alloc (nR_ _) _).drew.trans (hb1.mono sI)
   | exact((Below.refl _ _).alloc (nR_ _) _).trans (hb1.mono sI)
end
end Go.Proofs.YtpongdpnbclchaaGreatDoor
