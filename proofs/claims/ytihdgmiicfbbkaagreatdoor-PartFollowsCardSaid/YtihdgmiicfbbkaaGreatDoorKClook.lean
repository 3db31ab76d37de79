import Derived.Test.YtihdgmiicfbbkaaGreatDoorKCrshape
set_option maxHeartbeats 8000000
set_option linter.all false
namespace Go.Proofs.YtihdgmiicfbbkaaGreatDoor
variable{S st:List Hold}{k:Nat}
section
structure Tied (st S:List Hold):Prop where
 kinds:∀ h∈st,h.1<16
 same:S=st\/(∃ k c,st=S++[(k,c)]/\isOpen k=false)
theorem yx0 (h:k<16):wantR k=rWant k:=by
 have:∀ j:Fin 16,wantR ((j:Nat):Int)=rWant j:=by decide
 exact this ⟨k,h⟩
theorem zY5 (h:isOpen k=false):wantR k<=0:=by unfold isOpen at h;simp at h;omega
theorem zY6 (hk:k<16) (h:isOpen k=false) (c:Nat):nextD k c=0:=by
 have h3:∀ j:Fin 16,isOpen j=false->(j:Nat)≠9/\rH0 j=0/\rH1 j=0/\rH2 j=0:=by decide
 obtain ⟨a,b,d,e⟩:=h3 ⟨k,hk⟩ h;unfold nextD;rw [if_neg a]
 split
 ·exact b
 split
 ·exact d
 split
 ·exact e
 rfl
theorem zD6 (o h:Nat) (hh:3<=h):nextD o h=if o=9 then 2 else 0:=by unfold nextD;rw [if_neg (by omega:¬h=0),if_neg (by omega:¬h=1),if_neg (by omega:¬h=2)]
theorem zs1:∀ o k:Fin 16,∀ h:Fin 4,holdsR ((o:Nat):Int) ((h:Nat):Int) ((k:Nat):Int)=(nextD o h==rSort k):=by decide +kernel
theorem zY7 (o h k:Nat) (hh:3<=h):holdsR o h k=holdsR o 3 k:=by
 unfold holdsR;obtain ⟨a,b⟩:=zP3 o;have e1:((h:Int)==0)=false:=by rw [beq_eq_false_iff_ne];omega
 have e2:((h:Int)==1)=false:=by rw [beq_eq_false_iff_ne];omega
 have e3:((h:Int)==2)=false:=by rw [beq_eq_false_iff_ne];omega
 rw [e1,e2,e3,decide_eq_false (by omega:¬(h:Int)<wantR o),decide_eq_false (by omega:¬(3:Int)<wantR o)];rfl
theorem zS9 (o h k:Nat) (ho:o<16) (hk:k<16):holdsR o h k=(nextD o h==rSort k):=by
 by_cases hh:h<4
 ·exact zs1 ⟨o,ho⟩ ⟨k,hk⟩ ⟨h,hh⟩
 rw [zY7 o h k (by omega)];have:=zs1 ⟨o,ho⟩ ⟨k,hk⟩ ⟨3,by omega⟩;rw [zD6 o h (by omega),<-zD6 o 3 (by omega)];exact this
theorem yx1 (k:Nat) (hk:k<16) (num op:Int) (hn:num<=9223372036854775807):numB k num op=(decide (0<=num)&&decide (num<=rMost k)&&decide (rOp0 k<=op)&&decide (op<=rOp1 k)):=by
 have h16:k=0\/k=1\/k=2\/k=3\/k=4\/k=5\/k=6\/k=7\/k=8\/k=9\/k=10\/k=11\/k=12\/k=13\/k=14\/k=15:=oM;rcases h16 with rfl | rfl | rfl | rfl | rfl | rfl | rfl | rfl | rfl | rfl | rfl | rfl | rfl | rfl | rfl | rfl
 all_goals (rw [Bool.eq_iff_iff];simp [numB,rMost,rOp0,rOp1];omega)
theorem zT0 (n:Nd) (hn:n.num<=9223372036854775807):fieldsB n.kind n.name.toList n.num n.op=fitN n:=by
 unfold fieldsB fitN;by_cases h:0<=n.kind/\n.kind<=15
 ·rw [decide_eq_true h.1,decide_eq_true h.2]
  obtain ⟨k,hk⟩:=Int.eq_ofNat_of_zero_le h.1;have hk16:k<16:=oM;rw [hk];simp only [Int.toNat_natCast,Bool.true_and];unfold fitB
  have hnm:namedB (k:Int)=rNamed k:=by
   have:∀ j:Fin 16,namedB ((j:Nat):Int)=rNamed j:=by decide
   exact this ⟨k,hk16⟩
  rw [hnm,yx1 k hk16 _ _ hn]
 have:(decide (0<=n.kind)&&decide (n.kind<=15))=false:=by rw [Bool.eq_false_iff];simp;omega
 rw [this];rfl
theorem zT1 (h:∀ x∈st,x.1<16):wantsB st=wantsR st:=by
 unfold wantsB wantsR
 induction st with
 | nil=>rfl
 | cons a t ih =>
  rw [List.any_cons,List.any_cons,ih (fun x hx=>h x (List.mem_cons_of_mem _ hx)),yx0 (h a List.mem_cons_self)]
theorem zT2 {c:Nat} (h:isOpen k=false):wantsR (S++[(k,c)])=wantsR S:=by have:=zY5 h;unfold wantsR;rw [List.any_append];simp only [List.any_cons,List.any_nil,Bool.or_false];rw [decide_eq_false (by show ¬((c:Int)<wantR k);omega),Bool.or_false]
theorem Tied.wants (h:Tied st S) (m:Nat) (hm:m<=st.length):wantsB (st.drop m)=wantsR (S.drop m):=by
 rw [zT1 (fun x hx=>h.kinds x (List.mem_of_mem_drop hx))];rcases h.same with rfl | ⟨k,c,rfl,ho⟩
 ·rfl
 by_cases hc:m<=S.length
 ·rw [List.drop_append_of_le_length hc,zT2 ho]
 rw [List.length_append] at hm;simp only [List.length_cons,List.length_nil] at hm;rw [List.drop_of_length_le (by rw [List.length_append];simp only [List.length_cons,List.length_nil];omega),List.drop_of_length_le (by omega)]
theorem zY8 (h:k<16):declB k=(rSort k==1)/\stmtB k=(rSort k==2):=by
 have:∀ j:Fin 16,declB j=(rSort j==1)/\stmtB ((j:Nat):Int)=(rSort j==2):=by decide
 exact this ⟨k,h⟩
theorem zs2 {m:Nat} (h:m<S.length):incTop (S.take (m+1))=S.take m++[(S[m].1,S[m].2+1)]:=by
 have e:S.take (m+1)=S.take m++[S[m]]:=List.take_succ_eq_append_getElem h;have l:(S.take m).length=m:=by rw [List.length_take];omega
 rw [zs5 (k:=m) (by rw [List.length_take];omega)];have g:(S.take (m+1))[m]'(by rw [List.length_take];omega)=S[m]:=List.getElem_take;rw [g,e,List.set_append_right _ _ (by omega),l,Nat.sub_self];rfl
theorem Tied.len (h:Tied st S):S.length<=st.length:=by
 rcases h.same with rfl | ⟨k,c,rfl,_⟩
 ·exact nR_ _
 rw [List.length_append];omega
theorem Tied.at (h:Tied st S) {m:Nat} (hm:m<S.length):st.take m=S.take m/\st.getD m (0,0)=S[m]:=by
 rcases h.same with rfl | ⟨k,c,rfl,_⟩
 ·exact ⟨rfl,by rw [List.getD_eq_getElem?_getD,List.getElem?_eq_getElem hm];rfl⟩
 refine ⟨List.take_append_of_le_length oM,?_⟩;rw [List.getD_eq_getElem?_getD,List.getElem?_append_left hm,List.getElem?_eq_getElem hm];rfl
theorem Tied.push {A:List Hold} (hk:k<16) (hA:∀ h∈A,h.1<16):Tied (A++[(k,0)]) (if isOpen k then A++[(k,0)] else A):=by
 refine ⟨fun h hh=>?_,?_⟩
 ·rcases List.mem_append.1 hh with hh | hh
  ·exact hA h hh
  simp at hh;subst hh;exact hk
 cases ho:isOpen k
 ·exact .inr ⟨k,0,rfl,ho⟩
 exact .inl rfl
theorem zj2 {g:Bool} {d:Int}:putOk st g d k=true↔(0<=d-1/\d-1<=st.length)/\wantsB (st.drop (d-1).toNat)=false/\takesB st g (d-1).toNat (rSort k)=true:=by
 unfold putOk;simp only [Bool.and_eq_true,decide_eq_true_eq,Bool.not_eq_true'];constructor
 ·rintro ⟨⟨⟨a,b⟩,c⟩,d⟩;exact ⟨⟨a,b⟩,c,d⟩
 rintro ⟨⟨a,b⟩,c,d⟩;exact ⟨⟨⟨a,b⟩,c⟩,d⟩
theorem yC8 (ns:List Nd) (hns:∀ n∈ns,n.num<=9223372036854775807):∀ (i:Nat) (st S:List Hold) (g:Bool),Tied st S->runD ns i st g=runR ns i S g:=by
 induction ns with
 | nil =>
  intro i st S g h;have:=h.wants 0 (zL_ _);rw [List.drop_zero,List.drop_zero] at this;rw [runD,runR,this]
 | cons n ns ih =>
  intro i st S g h;have ih':=ih (fun x hx=>hns x (List.mem_cons_of_mem _ hx));have hff:=zT0 n (hns n List.mem_cons_self);clear ih;rw [runD];by_cases hf:fitN n=false
  ·rw [if_pos hf]
   by_cases hw:wantsR (S.drop (n.depth-1).toNat)=true
   ·rw [zp5 hw]
   rw [zm9 ⟨rfl,by simpa using hw⟩ (.inr (by rw [hff];exact hf))]
  rw [if_neg hf];have hf':fitN n=true:=by simpa using hf
  obtain ⟨k0,k15⟩:=zi0 hf';obtain ⟨k,hk⟩:=Int.eq_ofNat_of_zero_le k0;have hk16:k<16:=oM;have ekd:n.kind.toNat=k:=oM;rw [ekd];by_cases hw:wantsR (S.drop (n.depth-1).toNat)=true
  ·rw [zp5 hw,if_pos]
   rw [Bool.eq_false_iff,Ne,zj2];rintro ⟨⟨a,b⟩,c,d⟩;rw [h.wants _ (by omega),hw] at c;cases c
  have hw':wantsR (S.drop (n.depth-1).toNat)=false:=by simpa using hw
  by_cases hd:n.depth≠(S.take (n.depth-1).toNat).length+1
  ·rw [zm9 ⟨rfl,hw'⟩ (.inl hd),if_pos]
   rw [Bool.eq_false_iff,Ne,zj2];rintro ⟨⟨a,b⟩,c,d⟩;rw [List.length_take] at hd;rcases h.same with rfl | ⟨lk,lc,rfl,ho⟩
   ·omega
   rw [List.length_append] at b;simp only [List.length_cons,List.length_nil] at b;have em:(n.depth-1).toNat=S.length+1:=oM;rw [em] at d;unfold takesB at d;rw [if_neg (by omega)] at d;have eg:(S++[(lk,lc)]).getD (S.length+1-1) (0,0)=(lk,lc):=by simp [List.getD_eq_getElem?_getD]
   rw [eg] at d;simp only [] at d;rw [zY6 (h.kinds (lk,lc) (by simp)) ho,beq_iff_eq] at d;have:=zE3 hk16;omega
  have hd':n.depth=(S.take (n.depth-1).toNat).length+1:=by simpa using hd
  have hle:(n.depth-1).toNat<=S.length:=by rw [List.length_take] at hd';omega
  have hlen:=h.len;have hl1:(S.take (n.depth-1).toNat).length=(n.depth-1).toNat:=by rw [List.length_take];omega
  have hwb:wantsB (st.drop (n.depth-1).toNat)=false:=by rw [h.wants _ (by omega)];exact hw'
  generalize hm:(n.depth-1).toNat=m at *;have hdm:n.depth=(m:Int)+1:=oM
  cases m with
  | zero =>
   have h1:n.depth=1:=oM;rw [zP1 (by rw [hm];exact ⟨rfl,hw'⟩) h1 (by rw [hff];exact hf'),ekd];obtain ⟨e1,e2⟩:=zY8 hk16;rw [hk,e1,e2];have hs:rSort k=1\/rSort k=2\/(rSort k≠1/\rSort k≠2):=oM
   have hput:putOk st g n.depth k=takesB st g 0 (rSort k):=by
    rw [Bool.eq_iff_iff,zj2,hm,h1];constructor
    ·exact fun x=>x.2.2
    exact fun x=>⟨⟨by omega,by omega⟩,hwb,x⟩
   rw [hput];unfold takesB;rw [if_pos rfl];have hb:begunD g n=(g||rSort k==2):=by unfold begunD;rw [if_pos h1,ekd]
   have hpp:pathPut st (n.depth-1).toNat k=[(k,0)]:=by rw [hm];rfl
   rcases hs with hs | hs | ⟨hs1,hs2⟩
   ·rw [hs] at hb ⊢
    cases g
    ·simp only [Bool.not_false]
     rw [if_neg (by decide),if_neg (by omega),if_neg (by decide),hb];rw [hm,ekd] at *;exact ih' _ _ _ _ (Tied.push (A:=[]) hk16 sI)
    rfl
   ·rw [hs] at hb ⊢
    cases g
    ·rw [if_neg (by decide),if_neg (by omega),if_neg (by decide),hb]
     rw [hm,ekd] at *;exact ih' _ _ _ _ (Tied.push (A:=[]) hk16 sI)
    rw [if_neg (by decide),if_neg (by omega),if_neg (by decide),hb];rw [hm,ekd] at *;exact ih' _ _ _ _ (Tied.push (A:=[]) hk16 sI)
   have b1:(rSort k==1)=false:=by rw [beq_eq_false_iff_ne];exact hs1
   have b2:(rSort k==2)=false:=by rw [beq_eq_false_iff_ne];exact hs2
   rw [b1,b2]
   cases g<;>rfl
  | succ m =>
   have hmS:m<S.length:=oM;obtain ⟨t1,t2⟩:=h.at hmS
   have hkS:S[m].1<16:=by
    have:S[m]∈st:=by
     rcases h.same with e | ⟨a,b,e,_⟩
     ·rw [<-e];exact List.getElem_mem _
     rw [e];exact List.mem_append_left _ (List.getElem_mem _)
    exact h.kinds _ this
   have hget:(S.take (m+1)).getD ((S.take (m+1)).length-1) (0,0)=S[m]:=by rw [hl1,Nat.add_sub_cancel,List.getD_eq_getElem?_getD,List.getElem?_take,if_pos (by omega),List.getElem?_eq_getElem hmS];rfl
   rw [zZ9 (S1:=S.take (m+1)) (by rw [hm];exact ⟨rfl,hw'⟩) (fun e=>by rw [e] at hl1;simp at hl1) (by rw [hl1,hdm]) (by rw [hff];exact hf'),hget,ekd]
   have hput:putOk st g n.depth k=(nextD S[m].1 S[m].2==rSort k):=by
    rw [Bool.eq_iff_iff,zj2,hm,hdm];unfold takesB;rw [if_neg (by omega),Nat.add_sub_cancel,t2];constructor
    ·exact fun x=>x.2.2
    exact fun x=>⟨⟨by omega,by omega⟩,hwb,x⟩
   rw [hput,hk,zS9 _ _ _ hkS hk16];by_cases hx:(nextD S[m].1 S[m].2==rSort k)=false
   ·rw [if_pos hx,if_pos hx]
   rw [if_neg hx,if_neg hx];by_cases h24:24<n.depth
   ·rw [if_pos h24,if_pos h24]
   rw [if_neg h24,if_neg h24];have hb:begunD g n=g:=by unfold begunD;rw [if_neg (by omega)]
   have hpp:pathPut st (m+1) k=incTop (S.take (m+1))++[(k,0)]:=by unfold pathPut;rw [if_neg (by omega),Nat.add_sub_cancel,t1,t2,zs2 hmS,List.append_assoc];rfl
   rw [hb,hpp];refine ih' _ _ _ _ (Tied.push hk16 ?_);intro x hx';rw [zs2 hmS] at hx';rcases List.mem_append.1 hx' with hx' | hx'
   ·refine h.kinds x ?_
    have:x∈S:=List.mem_of_mem_take hx';rcases h.same with e | ⟨a,b,e,_⟩
    ·rw [<-e];exact this
    rw [e];exact List.mem_append_left _ this
   simp at hx';subst hx';exact hkS
theorem zz0 (ns:List Nd) (hns:∀ n∈ns,n.Ok):shapeR ns=shapeD ns:=by unfold shapeR shapeD;rw [yC8 ns (fun n hn=>(hns n hn).num) 0 [] [] false ⟨fun h hh=>absurd hh (by simp),.inl rfl⟩]
end
section
open Go.RowKit
abbrev ndVal (n:Nd):Value:=.agg #[nI n.depth,nI n.kind,.string n.name,nI n.num,nI n.op,nI n.pos]
def exprD (n:Nd):Bool:=decide (10<=n.kind)
def numberD (n:Nd):Bool:=if n.kind=11 then false else if n.kind=14 then n.op==1 else if n.kind=15 then decide (n.op<=7) else true
def siteD (n:Nd):Bool:=if n.kind=3\/n.kind=13\/n.kind=5 then true else (n.op==6||n.op==7)
def wantD (n:Nd):Bool:=if n.kind=5\/n.kind=7\/n.kind=8 then false else if n.kind=14 then n.op==1 else if n.kind=15 then decide (n.op<14) else true
def numberR (n:Nd):Bool:=if n.kind=10\/n.kind=12\/n.kind=13 then true else if n.kind=14 then n.op==1 else if n.kind=15 then decide (3<=n.op)&&decide (n.op<=7) else false
def condR (n:Nd):Bool:=if n.kind=11 then true else if n.kind=14 then n.op==2 else if n.kind=15 then decide (8<=n.op)&&decide (n.op<=15) else false
def siteR (n:Nd):Bool:=n.kind==3||n.kind==13||n.kind==5||(n.kind==15&&(n.op==6||n.op==7))
def namesR (n:Nd):Int:=if n.kind=2\/n.kind=4\/n.kind=12 then 1 else if n.kind=3\/n.kind=13 then 2 else 0
theorem zY9 (n:Nd) (w:World):Calls Tryz.prog 152 #[ndVal n] w fun e w'=>e=.returned (.bool (exprD n))/\Below w.heap.size w w':=by go_enter Tryz.func152,Tryz.ntmps152;go_wp2;go_ret;exact ⟨rfl,(Below.refl _ _).alloc (nR_ _) _⟩
theorem zJ1 (n:Nd) (w:World):Calls Tryz.prog 153 #[ndVal n] w fun e w'=>e=.returned (.bool (numberD n))/\Below w.heap.size w w':=by
 go_enter Tryz.func153,Tryz.ntmps153;go_wp2
 all_goals first
  | (exfalso;simp_all;done)
  | (go_ret;refine ⟨za4 ?_,(Below.refl _ _).alloc (Nat.le_refl _) _⟩;simp only [beq_iff_eq,beq_eq_false_iff_ne] at *;simp [numberD, *];done)
theorem zZ0 (n:Nd) (w:World):Calls Tryz.prog 154 #[ndVal n] w fun e w'=>e=.returned (.bool (siteD n))/\Below w.heap.size w w':=by
 go_enter Tryz.func154,Tryz.ntmps154;go_wp2
 all_goals first
  | (exfalso;simp_all;done)
  | (go_ret;refine ⟨za4 ?_,(Below.refl _ _).alloc (Nat.le_refl _) _⟩;simp only [beq_iff_eq,beq_eq_false_iff_ne] at *;simp [siteD, *];done)
theorem zZ1 (n:Nd) (w:World):Calls Tryz.prog 155 #[ndVal n] w fun e w'=>e=.returned (.bool (wantD n))/\Below w.heap.size w w':=by
 go_enter Tryz.func155,Tryz.ntmps155;go_wp2
 all_goals first
  | (exfalso;simp_all;done)
  | (go_ret;refine ⟨za4 ?_,(Below.refl _ _).alloc (Nat.le_refl _) _⟩;simp only [beq_iff_eq,beq_eq_false_iff_ne] at *;simp [wantD, *];done)
theorem zJ2 (n:Nd) (w:World):Calls Tryz.prog 57 #[ndVal n] w fun e w'=>e=.returned (.bool (numberR n))/\Below w.heap.size w w':=by
 go_enter Tryz.func57,Tryz.ntmps57;go_wp2
 all_goals first
  | (exfalso;simp_all;done)
  | (go_ret;refine ⟨za4 ?_,(Below.refl _ _).alloc (Nat.le_refl _) _⟩;simp only [beq_iff_eq,beq_eq_false_iff_ne] at *;simp [numberR, *];done)
  | (go_ret;refine ⟨za4 ?_,(Below.refl _ _).alloc (Nat.le_refl _) _⟩;simp only [beq_iff_eq,beq_eq_false_iff_ne] at *;simp [numberR, *];omega)
theorem zZ2 (n:Nd) (w:World):Calls Tryz.prog 59 #[ndVal n] w fun e w'=>e=.returned (.bool (condR n))/\Below w.heap.size w w':=by
 go_enter Tryz.func59,Tryz.ntmps59;go_wp2
 all_goals first
  | (exfalso;simp_all;done)
  | (go_ret;refine ⟨za4 ?_,(Below.refl _ _).alloc (Nat.le_refl _) _⟩;simp only [beq_iff_eq,beq_eq_false_iff_ne] at *;simp [condR, *];done)
  | (go_ret;refine ⟨za4 ?_,(Below.refl _ _).alloc (Nat.le_refl _) _⟩;simp only [beq_iff_eq,beq_eq_false_iff_ne] at *;simp [condR, *];omega)
theorem zZ3 (n:Nd) (w:World):Calls Tryz.prog 29 #[ndVal n] w fun e w'=>e=.returned (.bool (siteR n))/\Below w.heap.size w w':=by
 go_enter Tryz.func29,Tryz.ntmps29;go_wp2
 all_goals first
  | (exfalso;simp_all;done)
  | (go_ret;refine ⟨za4 ?_,(Below.refl _ _).alloc (Nat.le_refl _) _⟩;(try simp only [beq_iff_eq,beq_eq_false_iff_ne] at *);simp [siteR, *];done)
theorem zT3 (n:Nd) (w:World):Calls Tryz.prog 27 #[ndVal n] w fun e w'=>e=.returned (nI (namesR n))/\Below w.heap.size w w':=by
 go_enter Tryz.func27,Tryz.ntmps27;go_wp2
 all_goals first
  | (exfalso;simp_all;done)
  | (go_ret;refine ⟨zl6 ?_,(Below.refl _ _).alloc (Nat.le_refl _) _⟩;simp only [beq_iff_eq,beq_eq_false_iff_ne] at *;simp [namesR, *];done)
end
section
open Go.RowKit
def idxFrom:List ByteArray->List UInt8->Nat->Int
 | [],_,_ => -1
 | a::t,v,k=>if v==a.toList then (k:Int) else idxFrom t v (k+1)
structure StrsAt (w:World) (b o:Nat) (l:List ByteArray):Prop where
 lt:b<w.heap.size
 c:∀ (i:Nat) (h:i<l.length),w.cell? ⟨b,o+i,none⟩=some (.string l[i])
theorem StrsAt.below {w w1:World} {b o:Nat} {l:List ByteArray} (h:StrsAt w b o l) (hb:Below w.heap.size w w1):StrsAt w1 b o l :=
 ⟨lL_ h.lt hb.size,fun i hi=>(hb.cell (p:=⟨b,o+i,none⟩) h.lt).trans (h.c i hi)⟩
theorem zZ4 (b o cap:Nat) (l:List ByteArray) (v:ByteArray) (w:World) (h:StrsAt w b o l) (hl:l.length<=1000) :
  Calls Tryz.prog 177 #[.slice (sA b o) l.length cap,.string v] w fun e w'=>e=.returned (nI (idxFrom l v.toList 0))/\w'=w:=by
 have HC:Hi _:=h.c;have hlt:=h.lt;have hl1:(l.length:Int)<=1000:=oM;clear h;have hl2:l.length<9223372036854775807:=oM;go_enter Tryz.func177,Tryz.ntmps177;go_wp2_with fail
 go_loop [8] (fun t=>∃ k:Nat,k<=l.length/\t=nI k/\Hi (idxFrom l v.toList 0=idxFrom (l.drop k) v.toList k)) (fun t=>l.length-(intOf t).toNat)
 case atStart=>exact ⟨0,by omega,rfl,by unfold Hi;rw [List.drop_zero]⟩
 obtain ⟨k,hk,rfl,hr⟩:=hrel;by_cases hlt2:k<l.length
 ·have c:=HC.o k hlt2
  have hst:idxFrom (l.drop k) v.toList k=if v.toList==l[k].toList then (k:Int) else idxFrom (l.drop (k+1)) v.toList (k+1):=by rw [List.drop_eq_getElem_cons hlt2,idxFrom]
  rw [hst] at hr;clear hst;generalize l[k]=a at *;cases hq:(v.toList==a.toList)
  ·rw [hq,if_neg (by simp)] at hr
   go_wp2_with fail
   go_round
   case rel=>exact ⟨k+1,by omega,by go_num,hr⟩
   case measure=>simp [intOf];omega
  rw [hq,if_pos rfl] at hr;go_wp2_with fail;go_ret;exact ⟨zl6 hr.o.symm,rfl⟩
 have HE:Hi (idxFrom l v.toList 0 = -1):=by unfold Hi;rw [hr.o,List.drop_of_length_le (by omega)];rfl
 clear hr;go_wp2_with fail;go_ret;exact ⟨zl6 HE.o.symm,rfl⟩
structure NamesIs (w:World) (b:Nat) (sc:List ByteArray) (ar:List (ByteArray×Nat)):Prop where
 lt:b<w.heap.size
 sl:sc.length<=8
 al:ar.length<=3
 str:∀ (i:Nat) (h:i<sc.length),w.cell? (aD b i)=some (.string sc[i])
 an:∀ (i:Nat) (h:i<ar.length),w.cell? ⟨b,8+i*2,none⟩=some (.string ar[i].1)
 av:∀ (i:Nat) (h:i<ar.length),w.cell? ⟨b,8+i*2+1,none⟩=some (nI ar[i].2)
 sn:w.cell? (aD b 14)=some (nI sc.length)
 aln:w.cell? (aD b 15)=some (nI ar.length)
 room:∀ i,i<16->∃ v,w.cell? (aD b i)=some v
 warm:∀ i,w.frozen? (aD b i)=false
theorem zw6 (b:Nat) (s:ByteArray) (sc:List ByteArray) (ar:List (ByteArray×Nat)) (w:World) (h:NamesIs w b sc ar) :
  Calls Tryz.prog 167 #[pA b 0,.string s] w fun e w'=>e=.returned (nI (idxFrom sc s.toList 0))/\∃ n,w'=w.drewN n:=by
 have c:=h.sn;have hl:=h.sl;have hl1:(sc.length:Int)<=8:=oM;have hlt:=h.lt;have HS:Hi (∀ n,StrsAt (w.drewN n) b 0 sc):=fun n=>StrsAt.below ⟨h.lt,fun i hi=>by rw [Nat.zero_add];exact h.str i hi⟩ (below_drewN (Below.refl _ _) n);clear h;go_enter Tryz.func167,Tryz.ntmps167;go_wp2_with fail
 go_quiet ((go_at_call 177;exact Calls.quiet_of_same (zZ4 b 0 _ sc s _ (HS.o _) oM)))
 go_wp2_with fail;go_ret;exact ⟨rfl,_,rfl⟩
def aidxFrom:List (ByteArray×Nat)->List UInt8->Nat->Int
 | [],_,_ => -1
 | a::t,v,k=>if a.1.toList==v then (k:Int) else aidxFrom t v (k+1)
structure ArrsAt (w:World) (b o:Nat) (l:List (ByteArray×Nat)):Prop where
 lt:b<w.heap.size
 c0:∀ (i:Nat) (h:i<l.length),w.cell? ⟨b,o+i*2,none⟩=some (.string l[i].1)
 c1:∀ (i:Nat) (h:i<l.length),w.cell? ⟨b,o+i*2+1,none⟩=some (nI l[i].2)
theorem ArrsAt.below {w w1:World} {b o:Nat} {l:List (ByteArray×Nat)} (h:ArrsAt w b o l) (hb:Below w.heap.size w w1):ArrsAt w1 b o l :=
 ⟨lL_ h.lt hb.size,fun i hi=>(hb.cell (p:=⟨b,o+i*2,none⟩) h.lt).trans (h.c0 i hi),fun i hi=>(hb.cell (p:=⟨b,o+i*2+1,none⟩) h.lt).trans (h.c1 i hi)⟩
theorem zJ3 (q:Nat) (a s:ByteArray) (n:Nat) (w:World) (hc:w.cell? (aD q 0)=some (.string s)) (hq:q<w.heap.size) :
  Calls Tryz.prog 179 #[.agg #[.string a,nI n],pA q 0] w fun e w'=>e=.returned (.bool (a.toList==s.toList))/\Below w.heap.size w w':=by
 have hne:¬q=w.heap.size:=oM;go_enter Tryz.func179,Tryz.ntmps179;go_wp2_with fail;go_ret;exact ⟨rfl,(Below.refl _ _).alloc (nR_ _) _⟩
theorem zz1 (b o cap q:Nat) (l:List (ByteArray×Nat)) (s:ByteArray) (w:World) (h:ArrsAt w b o l) (hl:l.length<=1000) (hc:w.cell? (aD q 0)=some (.string s)) (hq:q<w.heap.size) :
  Calls Tryz.prog 178 #[.slice (sA b o) l.length cap,.func (.func 179) #[] #[pA q 0]] w fun e w'=>e=.returned (nI (aidxFrom l s.toList 0))/\Below w.heap.size w w':=by
 have hlt:=h.lt;have hl1:(l.length:Int)<=1000:=oM;have HA:Hi _:=h;clear h;go_enter Tryz.func178,Tryz.ntmps178;go_wp2_with fail;go_loopw [8] (fun t wr=>∃ k:Nat,k<=l.length/\t=nI k/\Hi (aidxFrom l s.toList 0=aidxFrom (l.drop k) s.toList k)/\Hi (Below w.heap.size w wr)) (fun t _=>l.length-(intOf t).toNat)
 case atStart=>exact ⟨0,by omega,rfl,by unfold Hi;rw [List.drop_zero],Below.refl _ _⟩
 obtain ⟨k,hk,rfl,hr,HB⟩:=hrel;have hz:=HB.o.size;by_cases hlt2:k<l.length
 ·have c0:=(HA.o.below HB.o).c0 k hlt2
  have c1:=(HA.o.below HB.o).c1 k hlt2;have hc':wr.cell? (aD q 0)=some (.string s):=(HB.o.cell (p:=⟨q,0,none⟩) hq).trans hc
  have hst:aidxFrom (l.drop k) s.toList k=if l[k].1.toList==s.toList then (k:Int) else aidxFrom (l.drop (k+1)) s.toList (k+1):=by rw [List.drop_eq_getElem_cons hlt2,aidxFrom]
  rw [hst] at hr;clear hst;generalize l[k].1=a at *;generalize l[k].2=an at *;go_wp2_with fail;refine (zJ3 q a s an _ hc' oM).mono ?_;rintro e w1 ⟨rfl,hb1⟩;have HB1:Hi (Below w.heap.size w w1):=HB.o.trans (hb1.mono hz);clear hb1;cases hq2:(a.toList==s.toList)
  ·rw [hq2,if_neg (by simp)] at hr
   go_wp2_with fail;go_roundw
   case rel=>exact ⟨k+1,by omega,by go_num,hr,HB1⟩
   case measure=>simp [intOf];omega
  rw [hq2,if_pos rfl] at hr;go_wp2_with fail;go_ret;exact ⟨zl6 hr.o.symm,HB1.o⟩
 have HE:Hi (aidxFrom l s.toList 0 = -1):=by unfold Hi;rw [hr.o,List.drop_of_length_le (by omega)];rfl
 clear hr;go_wp2_with fail;go_ret;exact ⟨zl6 HE.o.symm,HB.o⟩
theorem zD7 (b:Nat) (s:ByteArray) (sc:List ByteArray) (ar:List (ByteArray×Nat)) (w:World) (h:NamesIs w b sc ar) :
  Calls Tryz.prog 168 #[pA b 0,.string s] w fun e w'=>e=.returned (nI (aidxFrom ar s.toList 0))/\Below w.heap.size w w':=by
 have c:=h.aln;have hl:=h.al;have hl1:(ar.length:Int)<=3:=oM;have hlt:=h.lt;have HA:Hi (ArrsAt w b 8 ar):=⟨h.lt,h.an,h.av⟩;have hne:¬b=w.heap.size:=oM;clear h;have hmf:∀ (fn:Fn) (first cap:Array Value) (w:World),(Instr.makeFunc fn first cap).run Tryz.prog w=.ok (.func fn first cap) w:=fun _ _ _ _=>rfl;go_enter Tryz.func168,Tryz.ntmps168;go_wp2_with fail
 go_region_with (go_at_call 178;refine (zz1 b 8 _ w.heap.size ar s _ (HA.o.below (by first | exact (Below.refl _ _).alloc (Nat.le_refl _) _ | exact ((Below.refl _ _).alloc (Nat.le_refl _) _).drew)) oM (by simp [go_sem]) (by simp)).mono ?_;rintro e w1 ⟨rfl,hb1⟩)
 all_goals
  go_wp2_with fail;go_ret;refine ⟨rfl,?_⟩
  first
   | exact ((Below.refl _ _).alloc (nR_ _) _).drew.trans (hb1.mono sI)
   | exact ((Below.refl _ _).alloc (nR_ _) _).trans (hb1.mono sI)
end
end Go.Proofs.YtihdgmiicfbbkaaGreatDoor
