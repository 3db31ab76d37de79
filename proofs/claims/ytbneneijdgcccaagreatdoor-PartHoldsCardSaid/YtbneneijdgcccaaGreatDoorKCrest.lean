import Derived.Test.YtbneneijdgcccaaGreatDoorKCrshape
set_option maxHeartbeats 8000000
set_option linter.all false
namespace Go.Proofs.YtbneneijdgcccaaGreatDoor
section
structure Tied (st S:List Hold):Prop where
 kinds:∀ h∈st,h.1<16
 same:S=st\/(∃ k c,st=S++[(k,c)]/\isOpen k=false)
theorem yx0 {k:Nat} (h:k<16):wantR k=rWant k:=by
 have:∀ j:Fin 16,wantR ((j:Nat):Int)=rWant j:=by decide
 exact this ⟨k,h⟩
theorem zY5 {k:Nat} (h:isOpen k=false):wantR k<=0:=by
 unfold isOpen at h
 simp at h
 omega
theorem zY6 {k:Nat} (hk:k<16) (h:isOpen k=false) (c:Nat):nextD k c=0:=by
 have h3:∀ j:Fin 16,isOpen j=false->(j:Nat)≠9/\rH0 j=0/\rH1 j=0/\rH2 j=0:=by decide
 obtain ⟨a,b,d,e⟩:=h3 ⟨k,hk⟩ h
 unfold nextD
 rw [if_neg a]
 split
 ·exact b
 split
 ·exact d
 split
 ·exact e
 rfl
theorem zD6 (o h:Nat) (hh:3<=h):nextD o h=if o=9 then 2 else 0:=by
 unfold nextD
 rw [if_neg (by omega:¬h=0),if_neg (by omega:¬h=1),if_neg (by omega:¬h=2)]
theorem zs1:∀ o k:Fin 16,∀ h:Fin 4,holdsR ((o:Nat):Int) ((h:Nat):Int) ((k:Nat):Int)=(nextD o h==rSort k):=by decide +kernel
theorem zY7 (o h k:Nat) (hh:3<=h):holdsR o h k=holdsR o 3 k:=by
 unfold holdsR
 obtain ⟨a,b⟩:=zP3 o
 have e1:((h:Int)==0)=false:=by rw [beq_eq_false_iff_ne];omega
 have e2:((h:Int)==1)=false:=by rw [beq_eq_false_iff_ne];omega
 have e3:((h:Int)==2)=false:=by rw [beq_eq_false_iff_ne];omega
 rw [e1,e2,e3,decide_eq_false (by omega:¬(h:Int)<wantR o),decide_eq_false (by omega:¬(3:Int)<wantR o)]
 rfl
theorem zS9 (o h k:Nat) (ho:o<16) (hk:k<16):holdsR o h k=(nextD o h==rSort k):=by
 by_cases hh:h<4
 ·exact zs1 ⟨o,ho⟩ ⟨k,hk⟩ ⟨h,hh⟩
 rw [zY7 o h k (by omega)]
 have:=zs1 ⟨o,ho⟩ ⟨k,hk⟩ ⟨3,by omega⟩
 rw [zD6 o h (by omega),<-zD6 o 3 (by omega)]
 exact this
theorem yx1 (k:Nat) (hk:k<16) (num op:Int) (hn:num<=9223372036854775807):numB k num op=(decide (0<=num)&&decide (num<=rMost k)&&decide (rOp0 k<=op)&&decide (op<=rOp1 k)):=by
 have h16:k=0\/k=1\/k=2\/k=3\/k=4\/k=5\/k=6\/k=7\/k=8\/k=9\/k=10\/k=11\/k=12\/k=13\/k=14\/k=15:=by omega
 rcases h16 with rfl | rfl | rfl | rfl | rfl | rfl | rfl | rfl | rfl | rfl | rfl | rfl | rfl | rfl | rfl | rfl
 all_goals (rw [Bool.eq_iff_iff];simp [numB,rMost,rOp0,rOp1];omega)
theorem zT0 (n:Nd) (hn:n.num<=9223372036854775807):fieldsB n.kind n.name.toList n.num n.op=fitN n:=by
 unfold fieldsB fitN
 by_cases h:0<=n.kind/\n.kind<=15
 ·rw [decide_eq_true h.1,decide_eq_true h.2]
  obtain ⟨k,hk⟩:=Int.eq_ofNat_of_zero_le h.1
  have hk16:k<16:=by omega
  rw [hk]
  simp only [Int.toNat_natCast,Bool.true_and]
  unfold fitB
  have hnm:namedB (k:Int)=rNamed k:=by
   have:∀ j:Fin 16,namedB ((j:Nat):Int)=rNamed j:=by decide
   exact this ⟨k,hk16⟩
  rw [hnm,yx1 k hk16 _ _ hn]
 have:(decide (0<=n.kind)&&decide (n.kind<=15))=false:=by
  rw [Bool.eq_false_iff];simp;omega
 rw [this];rfl
theorem zT1 {st:List Hold} (h:∀ x∈st,x.1<16):wantsB st=wantsR st:=by
 unfold wantsB wantsR
 induction st with
 | nil=>rfl
 | cons a t ih =>
  rw [List.any_cons,List.any_cons,ih (fun x hx=>h x (List.mem_cons_of_mem _ hx)),yx0 (h a List.mem_cons_self)]
theorem zT2 {S:List Hold} {k c:Nat} (h:isOpen k=false):wantsR (S++[(k,c)])=wantsR S:=by
 have:=zY5 h
 unfold wantsR
 rw [List.any_append]
 simp only [List.any_cons,List.any_nil,Bool.or_false]
 rw [decide_eq_false (by show ¬((c:Int)<wantR k);omega),Bool.or_false]
theorem Tied.wants {st S:List Hold} (h:Tied st S) (m:Nat) (hm:m<=st.length):wantsB (st.drop m)=wantsR (S.drop m):=by
 rw [zT1 (fun x hx=>h.kinds x (List.mem_of_mem_drop hx))]
 rcases h.same with rfl | ⟨k,c,rfl,ho⟩
 ·rfl
 by_cases hc:m<=S.length
 ·rw [List.drop_append_of_le_length hc,zT2 ho]
 rw [List.length_append] at hm
 simp only [List.length_cons,List.length_nil] at hm
 rw [List.drop_of_length_le (by rw [List.length_append];simp only [List.length_cons,List.length_nil];omega),List.drop_of_length_le (by omega)]
theorem zY8 {k:Nat} (h:k<16):declB k=(rSort k==1)/\stmtB k=(rSort k==2):=by
 have:∀ j:Fin 16,declB j=(rSort j==1)/\stmtB ((j:Nat):Int)=(rSort j==2):=by decide
 exact this ⟨k,h⟩
theorem zs2 {S:List Hold} {m:Nat} (h:m<S.length):incTop (S.take (m+1))=S.take m++[(S[m].1,S[m].2+1)]:=by
 have e:S.take (m+1)=S.take m++[S[m]]:=List.take_succ_eq_append_getElem h
 have l:(S.take m).length=m:=by rw [List.length_take];omega
 rw [zs5 (k:=m) (by rw [List.length_take];omega)]
 have g:(S.take (m+1))[m]'(by rw [List.length_take];omega)=S[m]:=List.getElem_take
 rw [g,e,List.set_append_right _ _ (by omega),l,Nat.sub_self]
 rfl
theorem Tied.len {st S:List Hold} (h:Tied st S):S.length<=st.length:=by
 rcases h.same with rfl | ⟨k,c,rfl,_⟩
 ·exact Nat.le_refl _
 rw [List.length_append];omega
theorem Tied.at {st S:List Hold} (h:Tied st S) {m:Nat} (hm:m<S.length):st.take m=S.take m/\st.getD m (0,0)=S[m]:=by
 rcases h.same with rfl | ⟨k,c,rfl,_⟩
 ·exact ⟨rfl,by rw [List.getD_eq_getElem?_getD,List.getElem?_eq_getElem hm];rfl⟩
 refine ⟨List.take_append_of_le_length (by omega),?_⟩
 rw [List.getD_eq_getElem?_getD,List.getElem?_append_left hm,List.getElem?_eq_getElem hm];rfl
theorem Tied.push {A:List Hold} {k:Nat} (hk:k<16) (hA:∀ h∈A,h.1<16):Tied (A++[(k,0)]) (if isOpen k then A++[(k,0)] else A):=by
 refine ⟨fun h hh=>?_,?_⟩
 ·rcases List.mem_append.1 hh with hh | hh
  ·exact hA h hh
  simp at hh;subst hh;exact hk
 cases ho:isOpen k
 ·exact .inr ⟨k,0,rfl,ho⟩
 exact .inl rfl
theorem zj2 {st:List Hold} {g:Bool} {d:Int} {k:Nat}:putOk st g d k=true↔(0<=d-1/\d-1<=st.length)/\wantsB (st.drop (d-1).toNat)=false/\takesB st g (d-1).toNat (rSort k)=true:=by
 unfold putOk
 simp only [Bool.and_eq_true,decide_eq_true_eq,Bool.not_eq_true']
 constructor
 ·rintro ⟨⟨⟨a,b⟩,c⟩,d⟩;exact ⟨⟨a,b⟩,c,d⟩
 rintro ⟨⟨a,b⟩,c,d⟩;exact ⟨⟨⟨a,b⟩,c⟩,d⟩
theorem yC8 (ns:List Nd) (hns:∀ n∈ns,n.num<=9223372036854775807):∀ (i:Nat) (st S:List Hold) (g:Bool),Tied st S->runD ns i st g=runR ns i S g:=by
 induction ns with
 | nil =>
  intro i st S g h
  have:=h.wants 0 (Nat.zero_le _)
  rw [List.drop_zero,List.drop_zero] at this
  rw [runD,runR,this]
 | cons n ns ih =>
  intro i st S g h
  have ih':=ih (fun x hx=>hns x (List.mem_cons_of_mem _ hx))
  have hff:=zT0 n (hns n List.mem_cons_self)
  clear ih
  rw [runD]
  by_cases hf:fitN n=false
  ·rw [if_pos hf]
   by_cases hw:wantsR (S.drop (n.depth-1).toNat)=true
   ·rw [zp5 hw]
   rw [zm9 ⟨rfl,by simpa using hw⟩ (.inr (by rw [hff];exact hf))]
  rw [if_neg hf]
  have hf':fitN n=true:=by simpa using hf
  obtain ⟨k0,k15⟩:=zi0 hf'
  obtain ⟨k,hk⟩:=Int.eq_ofNat_of_zero_le k0
  have hk16:k<16:=by omega
  have ekd:n.kind.toNat=k:=by omega
  rw [ekd]
  by_cases hw:wantsR (S.drop (n.depth-1).toNat)=true
  ·rw [zp5 hw,if_pos]
   rw [Bool.eq_false_iff,Ne,zj2]
   rintro ⟨⟨a,b⟩,c,d⟩
   rw [h.wants _ (by omega),hw] at c
   cases c
  have hw':wantsR (S.drop (n.depth-1).toNat)=false:=by simpa using hw
  by_cases hd:n.depth≠(S.take (n.depth-1).toNat).length+1
  ·rw [zm9 ⟨rfl,hw'⟩ (.inl hd),if_pos]
   rw [Bool.eq_false_iff,Ne,zj2]
   rintro ⟨⟨a,b⟩,c,d⟩
   rw [List.length_take] at hd
   rcases h.same with rfl | ⟨lk,lc,rfl,ho⟩
   ·omega
   rw [List.length_append] at b
   simp only [List.length_cons,List.length_nil] at b
   have em:(n.depth-1).toNat=S.length+1:=by omega
   rw [em] at d
   unfold takesB at d
   rw [if_neg (by omega)] at d
   have eg:(S++[(lk,lc)]).getD (S.length+1-1) (0,0)=(lk,lc):=by simp [List.getD_eq_getElem?_getD]
   rw [eg] at d
   simp only [] at d
   rw [zY6 (h.kinds (lk,lc) (by simp)) ho,beq_iff_eq] at d
   have:=zE3 hk16
   omega
  have hd':n.depth=(S.take (n.depth-1).toNat).length+1:=by simpa using hd
  have hle:(n.depth-1).toNat<=S.length:=by rw [List.length_take] at hd';omega
  have hlen:=h.len
  have hl1:(S.take (n.depth-1).toNat).length=(n.depth-1).toNat:=by rw [List.length_take];omega
  have hwb:wantsB (st.drop (n.depth-1).toNat)=false:=by rw [h.wants _ (by omega)];exact hw'
  generalize hm:(n.depth-1).toNat=m at *
  have hdm:n.depth=(m:Int)+1:=by omega
  cases m with
  | zero =>
   have h1:n.depth=1:=by omega
   rw [zP1 (by rw [hm];exact ⟨rfl,hw'⟩) h1 (by rw [hff];exact hf'),ekd]
   obtain ⟨e1,e2⟩:=zY8 hk16
   rw [hk,e1,e2]
   have hs:rSort k=1\/rSort k=2\/(rSort k≠1/\rSort k≠2):=by omega
   have hput:putOk st g n.depth k=takesB st g 0 (rSort k):=by
    rw [Bool.eq_iff_iff,zj2,hm,h1]
    constructor
    ·exact fun x=>x.2.2
    exact fun x=>⟨⟨by omega,by omega⟩,hwb,x⟩
   rw [hput]
   unfold takesB
   rw [if_pos rfl]
   have hb:begunD g n=(g||rSort k==2):=by unfold begunD;rw [if_pos h1,ekd]
   have hpp:pathPut st (n.depth-1).toNat k=[(k,0)]:=by rw [hm];rfl
   rcases hs with hs | hs | ⟨hs1,hs2⟩
   ·rw [hs] at hb ⊢
    cases g
    ·simp only [Bool.not_false]
     rw [if_neg (by decide),if_neg (by omega),if_neg (by decide),hb]
     rw [hm,ekd] at *
     exact ih' _ _ _ _ (Tied.push (A:=[]) hk16 (by simp))
    rfl
   ·rw [hs] at hb ⊢
    cases g
    ·rw [if_neg (by decide),if_neg (by omega),if_neg (by decide),hb]
     rw [hm,ekd] at *
     exact ih' _ _ _ _ (Tied.push (A:=[]) hk16 (by simp))
    rw [if_neg (by decide),if_neg (by omega),if_neg (by decide),hb]
    rw [hm,ekd] at *
    exact ih' _ _ _ _ (Tied.push (A:=[]) hk16 (by simp))
   have b1:(rSort k==1)=false:=by rw [beq_eq_false_iff_ne];exact hs1
   have b2:(rSort k==2)=false:=by rw [beq_eq_false_iff_ne];exact hs2
   rw [b1,b2]
   cases g<;>rfl
  | succ m =>
   have hmS:m<S.length:=by omega
   obtain ⟨t1,t2⟩:=h.at hmS
   have hkS:S[m].1<16:=by
    have:S[m]∈st:=by
     rcases h.same with e | ⟨a,b,e,_⟩
     ·rw [<-e];exact List.getElem_mem _
     rw [e];exact List.mem_append_left _ (List.getElem_mem _)
    exact h.kinds _ this
   have hget:(S.take (m+1)).getD ((S.take (m+1)).length-1) (0,0)=S[m]:=by
    rw [hl1,Nat.add_sub_cancel,List.getD_eq_getElem?_getD,List.getElem?_take,if_pos (by omega),List.getElem?_eq_getElem hmS];rfl
   rw [zZ9 (S1:=S.take (m+1)) (by rw [hm];exact ⟨rfl,hw'⟩) (fun e=>by rw [e] at hl1;simp at hl1) (by rw [hl1,hdm]) (by rw [hff];exact hf'),hget,ekd]
   have hput:putOk st g n.depth k=(nextD S[m].1 S[m].2==rSort k):=by
    rw [Bool.eq_iff_iff,zj2,hm,hdm]
    unfold takesB
    rw [if_neg (by omega),Nat.add_sub_cancel,t2]
    constructor
    ·exact fun x=>x.2.2
    exact fun x=>⟨⟨by omega,by omega⟩,hwb,x⟩
   rw [hput,hk,zS9 _ _ _ hkS hk16]
   by_cases hx:(nextD S[m].1 S[m].2==rSort k)=false
   ·rw [if_pos hx,if_pos hx]
   rw [if_neg hx,if_neg hx]
   by_cases h24:24<n.depth
   ·rw [if_pos h24,if_pos h24]
   rw [if_neg h24,if_neg h24]
   have hb:begunD g n=g:=by unfold begunD;rw [if_neg (by omega)]
   have hpp:pathPut st (m+1) k=incTop (S.take (m+1))++[(k,0)]:=by
    unfold pathPut
    rw [if_neg (by omega),Nat.add_sub_cancel,t1,t2,zs2 hmS,List.append_assoc]
    rfl
   rw [hb,hpp]
   refine ih' _ _ _ _ (Tied.push hk16 ?_)
   intro x hx'
   rw [zs2 hmS] at hx'
   rcases List.mem_append.1 hx' with hx' | hx'
   ·refine h.kinds x ?_
    have:x∈S:=List.mem_of_mem_take hx'
    rcases h.same with e | ⟨a,b,e,_⟩
    ·rw [<-e];exact this
    rw [e];exact List.mem_append_left _ this
   simp at hx';subst hx';exact hkS
theorem zz0 (ns:List Nd) (hns:∀ n∈ns,n.Ok):shapeR ns=shapeD ns:=by
 unfold shapeR shapeD
 rw [yC8 ns (fun n hn=>(hns n hn).num) 0 [] [] false ⟨fun h hh=>absurd hh (by simp),.inl rfl⟩]
end
section
open Go.RowKit
abbrev ndVal (n:Nd):Value:=.agg #[.int .i64 n.depth,.int .i64 n.kind,.string n.name,.int .i64 n.num,.int .i64 n.op,.int .i64 n.pos]
def exprD (n:Nd):Bool:=decide (10<=n.kind)
def numberD (n:Nd):Bool:=if n.kind=11 then false else if n.kind=14 then n.op==1 else if n.kind=15 then decide (n.op<=7) else true
def siteD (n:Nd):Bool:=if n.kind=3\/n.kind=13\/n.kind=5 then true else (n.op==6||n.op==7)
def wantD (n:Nd):Bool:=if n.kind=5\/n.kind=7\/n.kind=8 then false else if n.kind=14 then n.op==1 else if n.kind=15 then decide (n.op<14) else true
def numberR (n:Nd):Bool:=if n.kind=10\/n.kind=12\/n.kind=13 then true else if n.kind=14 then n.op==1 else if n.kind=15 then decide (3<=n.op)&&decide (n.op<=7) else false
def condR (n:Nd):Bool:=if n.kind=11 then true else if n.kind=14 then n.op==2 else if n.kind=15 then decide (8<=n.op)&&decide (n.op<=15) else false
def siteR (n:Nd):Bool:=n.kind==3||n.kind==13||n.kind==5||(n.kind==15&&(n.op==6||n.op==7))
def namesR (n:Nd):Int:=if n.kind=2\/n.kind=4\/n.kind=12 then 1 else if n.kind=3\/n.kind=13 then 2 else 0
theorem zY9 (n:Nd) (w:World):Calls Tryz.prog 150 #[ndVal n] w fun e w'=>e=.returned (.bool (exprD n))/\Below w.heap.size w w':=by
 go_enter Tryz.func150,Tryz.ntmps150
 go_wp2
 go_ret
 exact ⟨rfl,(Below.refl _ _).alloc (Nat.le_refl _) _⟩
theorem zJ1 (n:Nd) (w:World):Calls Tryz.prog 151 #[ndVal n] w fun e w'=>e=.returned (.bool (numberD n))/\Below w.heap.size w w':=by
 go_enter Tryz.func151,Tryz.ntmps151
 go_wp2
 all_goals first
  | (exfalso;simp_all;done)
  | (go_ret;refine ⟨za4 ?_,(Below.refl _ _).alloc (Nat.le_refl _) _⟩;simp only [beq_iff_eq,beq_eq_false_iff_ne] at *;simp [numberD, *];done)
theorem zZ0 (n:Nd) (w:World):Calls Tryz.prog 152 #[ndVal n] w fun e w'=>e=.returned (.bool (siteD n))/\Below w.heap.size w w':=by
 go_enter Tryz.func152,Tryz.ntmps152
 go_wp2
 all_goals first
  | (exfalso;simp_all;done)
  | (go_ret;refine ⟨za4 ?_,(Below.refl _ _).alloc (Nat.le_refl _) _⟩;simp only [beq_iff_eq,beq_eq_false_iff_ne] at *;simp [siteD, *];done)
theorem zZ1 (n:Nd) (w:World):Calls Tryz.prog 153 #[ndVal n] w fun e w'=>e=.returned (.bool (wantD n))/\Below w.heap.size w w':=by
 go_enter Tryz.func153,Tryz.ntmps153
 go_wp2
 all_goals first
  | (exfalso;simp_all;done)
  | (go_ret;refine ⟨za4 ?_,(Below.refl _ _).alloc (Nat.le_refl _) _⟩;simp only [beq_iff_eq,beq_eq_false_iff_ne] at *;simp [wantD, *];done)
theorem zJ2 (n:Nd) (w:World):Calls Tryz.prog 82 #[ndVal n] w fun e w'=>e=.returned (.bool (numberR n))/\Below w.heap.size w w':=by
 go_enter Tryz.func82,Tryz.ntmps82
 go_wp2
 all_goals first
  | (exfalso;simp_all;done)
  | (go_ret;refine ⟨za4 ?_,(Below.refl _ _).alloc (Nat.le_refl _) _⟩;simp only [beq_iff_eq,beq_eq_false_iff_ne] at *;simp [numberR, *];done)
  | (go_ret;refine ⟨za4 ?_,(Below.refl _ _).alloc (Nat.le_refl _) _⟩;simp only [beq_iff_eq,beq_eq_false_iff_ne] at *;simp [numberR, *];omega)
theorem zZ2 (n:Nd) (w:World):Calls Tryz.prog 84 #[ndVal n] w fun e w'=>e=.returned (.bool (condR n))/\Below w.heap.size w w':=by
 go_enter Tryz.func84,Tryz.ntmps84
 go_wp2
 all_goals first
  | (exfalso;simp_all;done)
  | (go_ret;refine ⟨za4 ?_,(Below.refl _ _).alloc (Nat.le_refl _) _⟩;simp only [beq_iff_eq,beq_eq_false_iff_ne] at *;simp [condR, *];done)
  | (go_ret;refine ⟨za4 ?_,(Below.refl _ _).alloc (Nat.le_refl _) _⟩;simp only [beq_iff_eq,beq_eq_false_iff_ne] at *;simp [condR, *];omega)
theorem zZ3 (n:Nd) (w:World):Calls Tryz.prog 48 #[ndVal n] w fun e w'=>e=.returned (.bool (siteR n))/\Below w.heap.size w w':=by
 go_enter Tryz.func48,Tryz.ntmps48
 go_wp2
 all_goals first
  | (exfalso;simp_all;done)
  | (go_ret;refine ⟨za4 ?_,(Below.refl _ _).alloc (Nat.le_refl _) _⟩;(try simp only [beq_iff_eq,beq_eq_false_iff_ne] at *);simp [siteR, *];done)
theorem zT3 (n:Nd) (w:World):Calls Tryz.prog 46 #[ndVal n] w fun e w'=>e=.returned (.int .i64 (namesR n))/\Below w.heap.size w w':=by
 go_enter Tryz.func46,Tryz.ntmps46
 go_wp2
 all_goals first
  | (exfalso;simp_all;done)
  | (go_ret;refine ⟨zl6 ?_,(Below.refl _ _).alloc (Nat.le_refl _) _⟩;simp only [beq_iff_eq,beq_eq_false_iff_ne] at *;simp [namesR, *];done)
end
section
open Go.RowKit
def idxFrom:List ByteArray->List UInt8->Nat->Int
 | [],_,_ => -1
 | a::t,v,k=>if v==a.toList then (k:Int) else idxFrom t v (k+1)
structure StrsAt (w:World) (b o:Nat) (l:List ByteArray):Prop where
 lt:b<w.heap.size
 c:∀ (i:Nat) (h:i<l.length),w.cell? ⟨b,o+i,none⟩=some (.string l[i])
theorem StrsAt.below {w w1:World} {b o:Nat} {l:List ByteArray} (h:StrsAt w b o l) (hb:Below w.heap.size w w1):StrsAt w1 b o l :=
 ⟨Nat.lt_of_lt_of_le h.lt hb.size,fun i hi=>(hb.cell (p:=⟨b,o+i,none⟩) h.lt).trans (h.c i hi)⟩
theorem zZ4 (b o cap:Nat) (l:List ByteArray) (v:ByteArray) (w:World) (h:StrsAt w b o l) (hl:l.length<=1000) :
  Calls Tryz.prog 170 #[.slice (some ⟨b,o,none⟩) l.length cap,.string v] w fun e w'=>e=.returned (.int .i64 (idxFrom l v.toList 0))/\w'=w:=by
 have HC:Hi _:=h.c
 have hlt:=h.lt
 have hl1:(l.length:Int)<=1000:=by omega
 clear h
 have hl2:l.length<9223372036854775807:=by omega
 go_enter Tryz.func170,Tryz.ntmps170
 go_wp2_with fail
 go_loop [8] (fun t=>∃ k:Nat,k<=l.length/\t=.int .i64 k/\Hi (idxFrom l v.toList 0=idxFrom (l.drop k) v.toList k)) (fun t=>l.length-(intOf t).toNat)
 case atStart=>exact ⟨0,by omega,rfl,by unfold Hi;rw [List.drop_zero]⟩
 obtain ⟨k,hk,rfl,hr⟩:=hrel
 by_cases hlt2:k<l.length
 ·have c:=HC.o k hlt2
  have hst:idxFrom (l.drop k) v.toList k=if v.toList==l[k].toList then (k:Int) else idxFrom (l.drop (k+1)) v.toList (k+1):=by
   rw [List.drop_eq_getElem_cons hlt2,idxFrom]
  rw [hst] at hr
  clear hst
  generalize l[k]=a at *
  cases hq:(v.toList==a.toList)
  ·rw [hq,if_neg (by simp)] at hr
   go_wp2_with fail
   go_round
   case rel=>exact ⟨k+1,by omega,by go_num,hr⟩
   case measure=>simp [intOf];omega
  rw [hq,if_pos rfl] at hr
  go_wp2_with fail
  go_ret
  exact ⟨zl6 hr.o.symm,rfl⟩
 have HE:Hi (idxFrom l v.toList 0 = -1):=by unfold Hi;rw [hr.o,List.drop_of_length_le (by omega)];rfl
 clear hr
 go_wp2_with fail
 go_ret
 exact ⟨zl6 HE.o.symm,rfl⟩
structure NamesIs (w:World) (b:Nat) (sc:List ByteArray) (ar:List (ByteArray×Nat)):Prop where
 lt:b<w.heap.size
 sl:sc.length<=8
 al:ar.length<=3
 str:∀ (i:Nat) (h:i<sc.length),w.cell? ⟨b,i,none⟩=some (.string sc[i])
 an:∀ (i:Nat) (h:i<ar.length),w.cell? ⟨b,8+i*2,none⟩=some (.string ar[i].1)
 av:∀ (i:Nat) (h:i<ar.length),w.cell? ⟨b,8+i*2+1,none⟩=some (.int .i64 ar[i].2)
 sn:w.cell? ⟨b,14,none⟩=some (.int .i64 sc.length)
 aln:w.cell? ⟨b,15,none⟩=some (.int .i64 ar.length)
 room:∀ i,i<16->∃ v,w.cell? ⟨b,i,none⟩=some v
 warm:∀ i,w.frozen? ⟨b,i,none⟩=false
theorem zw6 (b:Nat) (s:ByteArray) (sc:List ByteArray) (ar:List (ByteArray×Nat)) (w:World) (h:NamesIs w b sc ar) :
  Calls Tryz.prog 162 #[.pointer (some ⟨b,0,none⟩),.string s] w fun e w'=>e=.returned (.int .i64 (idxFrom sc s.toList 0))/\∃ n,w'=w.drewN n:=by
 have c:=h.sn
 have hl:=h.sl
 have hl1:(sc.length:Int)<=8:=by omega
 have hlt:=h.lt
 have HS:Hi (∀ n,StrsAt (w.drewN n) b 0 sc):=fun n=>StrsAt.below ⟨h.lt,fun i hi=>by rw [Nat.zero_add];exact h.str i hi⟩ (below_drewN (Below.refl _ _) n)
 clear h
 go_enter Tryz.func162,Tryz.ntmps162
 go_wp2_with fail
 go_quiet ((go_at_call 170;exact Calls.quiet_of_same (zZ4 b 0 _ sc s _ (HS.o _) (by omega))))
 go_wp2_with fail
 go_ret
 exact ⟨rfl,_,rfl⟩
def aidxFrom:List (ByteArray×Nat)->List UInt8->Nat->Int
 | [],_,_ => -1
 | a::t,v,k=>if a.1.toList==v then (k:Int) else aidxFrom t v (k+1)
structure ArrsAt (w:World) (b o:Nat) (l:List (ByteArray×Nat)):Prop where
 lt:b<w.heap.size
 c0:∀ (i:Nat) (h:i<l.length),w.cell? ⟨b,o+i*2,none⟩=some (.string l[i].1)
 c1:∀ (i:Nat) (h:i<l.length),w.cell? ⟨b,o+i*2+1,none⟩=some (.int .i64 l[i].2)
theorem ArrsAt.below {w w1:World} {b o:Nat} {l:List (ByteArray×Nat)} (h:ArrsAt w b o l) (hb:Below w.heap.size w w1):ArrsAt w1 b o l :=
 ⟨Nat.lt_of_lt_of_le h.lt hb.size,fun i hi=>(hb.cell (p:=⟨b,o+i*2,none⟩) h.lt).trans (h.c0 i hi),fun i hi=>(hb.cell (p:=⟨b,o+i*2+1,none⟩) h.lt).trans (h.c1 i hi)⟩
theorem zJ3 (q:Nat) (a s:ByteArray) (n:Nat) (w:World) (hc:w.cell? ⟨q,0,none⟩=some (.string s)) (hq:q<w.heap.size) :
  Calls Tryz.prog 172 #[.agg #[.string a,.int .i64 n],.pointer (some ⟨q,0,none⟩)] w fun e w'=>e=.returned (.bool (a.toList==s.toList))/\Below w.heap.size w w':=by
 have hne:¬q=w.heap.size:=by omega
 go_enter Tryz.func172,Tryz.ntmps172
 go_wp2_with fail
 go_ret
 exact ⟨rfl,(Below.refl _ _).alloc (Nat.le_refl _) _⟩
theorem zz1 (b o cap q:Nat) (l:List (ByteArray×Nat)) (s:ByteArray) (w:World) (h:ArrsAt w b o l) (hl:l.length<=1000) (hc:w.cell? ⟨q,0,none⟩=some (.string s)) (hq:q<w.heap.size) :
  Calls Tryz.prog 171 #[.slice (some ⟨b,o,none⟩) l.length cap,.func (.func 172) #[] #[.pointer (some ⟨q,0,none⟩)]] w fun e w'=>e=.returned (.int .i64 (aidxFrom l s.toList 0))/\Below w.heap.size w w':=by
 have hlt:=h.lt
 have hl1:(l.length:Int)<=1000:=by omega
 have HA:Hi _:=h
 clear h
 go_enter Tryz.func171,Tryz.ntmps171
 go_wp2_with fail
 go_loopw [8] (fun t wr=>∃ k:Nat,k<=l.length/\t=.int .i64 k/\Hi (aidxFrom l s.toList 0=aidxFrom (l.drop k) s.toList k)/\Hi (Below w.heap.size w wr)) (fun t _=>l.length-(intOf t).toNat)
 case atStart=>exact ⟨0,by omega,rfl,by unfold Hi;rw [List.drop_zero],Below.refl _ _⟩
 obtain ⟨k,hk,rfl,hr,HB⟩:=hrel
 have hz:=HB.o.size
 by_cases hlt2:k<l.length
 ·have c0:=(HA.o.below HB.o).c0 k hlt2
  have c1:=(HA.o.below HB.o).c1 k hlt2
  have hc':wr.cell? ⟨q,0,none⟩=some (.string s):=(HB.o.cell (p:=⟨q,0,none⟩) hq).trans hc
  have hst:aidxFrom (l.drop k) s.toList k=if l[k].1.toList==s.toList then (k:Int) else aidxFrom (l.drop (k+1)) s.toList (k+1):=by
   rw [List.drop_eq_getElem_cons hlt2,aidxFrom]
  rw [hst] at hr
  clear hst
  generalize l[k].1=a at *
  generalize l[k].2=an at *
  go_wp2_with fail
  refine (zJ3 q a s an _ hc' (by omega)).mono ?_
  rintro e w1 ⟨rfl,hb1⟩
  have HB1:Hi (Below w.heap.size w w1):=HB.o.trans (hb1.mono hz)
  clear hb1
  cases hq2:(a.toList==s.toList)
  ·rw [hq2,if_neg (by simp)] at hr
   go_wp2_with fail
   go_roundw
   case rel=>exact ⟨k+1,by omega,by go_num,hr,HB1⟩
   case measure=>simp [intOf];omega
  rw [hq2,if_pos rfl] at hr
  go_wp2_with fail
  go_ret
  exact ⟨zl6 hr.o.symm,HB1.o⟩
 have HE:Hi (aidxFrom l s.toList 0 = -1):=by unfold Hi;rw [hr.o,List.drop_of_length_le (by omega)];rfl
 clear hr
 go_wp2_with fail
 go_ret
 exact ⟨zl6 HE.o.symm,HB.o⟩
theorem zD7 (b:Nat) (s:ByteArray) (sc:List ByteArray) (ar:List (ByteArray×Nat)) (w:World) (h:NamesIs w b sc ar) :
  Calls Tryz.prog 163 #[.pointer (some ⟨b,0,none⟩),.string s] w fun e w'=>e=.returned (.int .i64 (aidxFrom ar s.toList 0))/\Below w.heap.size w w':=by
 have c:=h.aln
 have hl:=h.al
 have hl1:(ar.length:Int)<=3:=by omega
 have hlt:=h.lt
 have HA:Hi (ArrsAt w b 8 ar):=⟨h.lt,h.an,h.av⟩
 have hne:¬b=w.heap.size:=by omega
 clear h
 have hmf:∀ (fn:Fn) (first cap:Array Value) (w:World),(Instr.makeFunc fn first cap).run Tryz.prog w=.ok (.func fn first cap) w:=fun _ _ _ _=>rfl
 go_enter Tryz.func163,Tryz.ntmps163
 go_wp2_with fail
 go_region_with (go_at_call 171;refine (zz1 b 8 _ w.heap.size ar s _ (HA.o.below (by first | exact (Below.refl _ _).alloc (Nat.le_refl _) _ | exact ((Below.refl _ _).alloc (Nat.le_refl _) _).drew)) (by omega) (by simp [go_sem]) (by simp)).mono ?_;rintro e w1 ⟨rfl,hb1⟩)
 all_goals
  go_wp2_with fail
  go_ret
  refine ⟨rfl,?_⟩
  first
   | exact ((Below.refl _ _).alloc (Nat.le_refl _) _).drew.trans (hb1.mono (by simp))
   | exact ((Below.refl _ _).alloc (Nat.le_refl _) _).trans (hb1.mono (by simp))
end
section
open Go.RowKit
theorem NamesIs.below {w w1:World} {b:Nat} {sc:List ByteArray} {ar:List (ByteArray×Nat)} (h:NamesIs w b sc ar) (hb:Below w.heap.size w w1):NamesIs w1 b sc ar:=by
 have hc:∀ o,w1.cell? ⟨b,o,none⟩=w.cell? ⟨b,o,none⟩:=fun o=>hb.cell (p:=⟨b,o,none⟩) h.lt
 have hf:∀ o,w1.frozen? ⟨b,o,none⟩=w.frozen? ⟨b,o,none⟩:=fun o=>hb.frozen (p:=⟨b,o,none⟩) h.lt
 exact ⟨Nat.lt_of_lt_of_le h.lt hb.size,h.sl,h.al,fun i hi=>by rw [hc];exact h.str i hi,fun i hi=>by rw [hc];exact h.an i hi,fun i hi=>by rw [hc];exact h.av i hi,by rw [hc];exact h.sn,by rw [hc];exact h.aln,fun i hi=>by rw [hc];exact h.room i hi,fun i=>by rw [hf];exact h.warm i⟩
theorem yC9 (l:List ByteArray) (v:List UInt8):∀ k:Nat,-1<=idxFrom l v k/\idxFrom l v k<k+l.length:=by
 induction l with
 | nil=>intro k;simp [idxFrom];omega
 | cons a t ih =>
  intro k
  unfold idxFrom
  split
  ·simp;omega
  have:=ih (k+1);simp at *;omega
theorem yx2 (l:List (ByteArray×Nat)) (v:List UInt8):∀ k:Nat,-1<=aidxFrom l v k/\aidxFrom l v k<k+l.length:=by
 induction l with
 | nil=>intro k;simp [aidxFrom];omega
 | cons a t ih =>
  intro k
  unfold aidxFrom
  split
  ·simp;omega
  have:=ih (k+1);simp at *;omega
def hasB (sc:List ByteArray) (ar:List (ByteArray×Nat)) (v:List UInt8):Bool:=decide (0<=idxFrom sc v 0)||decide (0<=aidxFrom ar v 0)
theorem zZ5 (b:Nat) (s:ByteArray) (sc:List ByteArray) (ar:List (ByteArray×Nat)) (w:World) (h:NamesIs w b sc ar) :
  Calls Tryz.prog 167 #[.pointer (some ⟨b,0,none⟩),.string s] w fun e w'=>e=.returned (.bool (hasB sc ar s.toList))/\Below w.heap.size w w':=by
 have HN:Hi _:=h
 clear h
 go_enter Tryz.func167,Tryz.ntmps167
 go_wp2_with fail
 refine (zw6 b s sc ar _ HN.o).mono ?_
 rintro e w1 ⟨rfl,n,rfl⟩
 have HB:Hi (Below w.heap.size w (w.drewN n)):=below_drewN (Below.refl _ _) n
 have HN2:Hi _:=HN.o.below HB.o
 have hz:(w.drewN n).heap.size=w.heap.size:=by simp
 generalize w.drewN n=W at *
 by_cases hi:0<=idxFrom sc s.toList 0
 ·have HE:Hi (hasB sc ar s.toList=true):=by unfold Hi hasB;rw [decide_eq_true hi];rfl
  go_wp2_with fail
  go_ret
  exact ⟨za4 HE.o.symm,HB.o⟩
 have HE:Hi (hasB sc ar s.toList=decide (0<=aidxFrom ar s.toList 0)):=by unfold Hi hasB;rw [decide_eq_false hi];rfl
 have hi2:idxFrom sc s.toList 0<0:=by omega
 have hi3:decide (0<=idxFrom sc s.toList 0)=false:=decide_eq_false hi
 clear hi
 go_wp2_with fail
 refine (zD7 b s sc ar _ HN2.o).mono ?_
 rintro e w1 ⟨rfl,hb1⟩
 have HB1:Hi (Below w.heap.size w w1):=HB.o.trans (hb1.mono (by omega))
 clear hb1
 go_wp2_with fail
 go_ret
 exact ⟨za4 HE.o.symm,HB1.o⟩
def knownD (sc:List ByteArray) (ar:List (ByteArray×Nat)) (v:List UInt8) (n:Int):Int×Int:=if 0<=n then (n,0) else if hasB sc ar v then (0,42) else (0,41)
theorem zD8 (b:Nat) (s:ByteArray) (n:Int) (sc:List ByteArray) (ar:List (ByteArray×Nat)) (w:World) (h:NamesIs w b sc ar) :
  Calls Tryz.prog 161 #[.pointer (some ⟨b,0,none⟩),.string s,.int .i64 n] w fun e w'=>e=.returned (.tuple #[.int .i64 (knownD sc ar s.toList n).1,.int .i64 (knownD sc ar s.toList n).2])/\Below w.heap.size w w':=by
 have HN:Hi _:=h
 clear h
 by_cases hn:0<=n
 ·have HE:Hi (knownD sc ar s.toList n=(n,0)):=by unfold Hi knownD;rw [if_pos hn]
  go_enter Tryz.func161,Tryz.ntmps161
  go_wp2_with fail
  go_ret2
  exact ⟨tup2 (by rw [HE.o]) (by rw [HE.o]),Below.refl _ _⟩
 have hn2:n<0:=by omega
 have HE:Hi (knownD sc ar s.toList n=if hasB sc ar s.toList then (0,42) else (0,41)):=by unfold Hi knownD;rw [if_neg hn]
 clear hn
 go_enter Tryz.func161,Tryz.ntmps161
 go_wp2_with fail
 refine (zZ5 b s sc ar _ HN.o).mono ?_
 rintro e w1 ⟨rfl,hb1⟩
 cases hh:hasB sc ar s.toList
 all_goals
  rw [hh] at HE
  go_wp2_with fail
  go_ret2
  exact ⟨tup2 (by rw [HE.o];rfl) (by rw [HE.o];rfl),hb1⟩
def Keep16 (b:Nat) (w w':World):Prop:=∀ o,16<=o->w'.cell? ⟨b,o,none⟩=w.cell? ⟨b,o,none⟩
theorem zw2 (b:Nat) (s:ByteArray) (sc:List ByteArray) (ar:List (ByteArray×Nat)) (w:World) (h:NamesIs w b sc ar) (h8:sc.length=8) :
  Calls Tryz.prog 168 #[.pointer (some ⟨b,0,none⟩),.string s] w fun e w'=>e=.returned (.tuple #[.int .i64 0,.int .i64 44])/\w'=w:=by
 have c:=h.sn
 rw [h8] at c
 clear h h8
 go_enter Tryz.func168,Tryz.ntmps168
 go_wp2_with fail
 go_ret2
 exact ⟨rfl,rfl⟩
theorem zD9 {w:World} {b:Nat} {sc:List ByteArray} {ar:List (ByteArray×Nat)} (h:NamesIs w b sc ar) (h8:sc.length<8) (s:ByteArray) :
  NamesIs ((w.setCell ⟨b,sc.length,none⟩ (.string s)).setCell ⟨b,14,none⟩ (.int .i64 ((sc.length:Int)+1))) b (sc++[s]) ar/\Keep16 b w ((w.setCell ⟨b,sc.length,none⟩ (.string s)).setCell ⟨b,14,none⟩ (.int .i64 ((sc.length:Int)+1))):=by
 obtain ⟨v0,r0⟩:=h.room sc.length (by omega)
 obtain ⟨v1,r1⟩:=cell?_setCell_some (p:=⟨b,sc.length,none⟩) (x:=.string s) h.sn
 have key:∀ o,((w.setCell ⟨b,sc.length,none⟩ (.string s)).setCell ⟨b,14,none⟩ (.int .i64 ((sc.length:Int)+1))).cell? ⟨b,o,none⟩=if o=14 then some (.int .i64 ((sc.length:Int)+1)) else if o=sc.length then some (.string s) else w.cell? ⟨b,o,none⟩:=fun o=>by
  rw [cs _ b 14 o _ _ r1,cs _ b sc.length o _ _ r0]
 have hal:=h.al
 refine ⟨⟨by simpa using h.lt,by simp;omega,h.al,?_,?_,?_,?_,?_,?_,fun i=>by simpa using h.warm i⟩,?_⟩
 ·intro i hi
  simp at hi
  rw [key,if_neg (by omega)]
  by_cases e:i=sc.length
  ·rw [if_pos e];simp [e]
  rw [if_neg e,h.str i (by omega),List.getElem_append_left (by omega)]
 ·intro i hi
  rw [key,if_neg (by omega),if_neg (by omega)];exact h.an i hi
 ·intro i hi
  rw [key,if_neg (by omega),if_neg (by omega)];exact h.av i hi
 ·rw [key,if_pos rfl];simp
 ·rw [key,if_neg (by omega),if_neg (by omega)];exact h.aln
 ·intro i hi
  rw [key]
  split
  ·exact ⟨_,rfl⟩
  split
  ·exact ⟨_,rfl⟩
  exact h.room i hi
 intro o ho
 rw [key,if_neg (by omega),if_neg (by omega)]
theorem zz2 (b:Nat) (s:ByteArray) (sc:List ByteArray) (ar:List (ByteArray×Nat)) (w:World) (h:NamesIs w b sc ar) (h8:sc.length<8) :
  Calls Tryz.prog 168 #[.pointer (some ⟨b,0,none⟩),.string s] w fun e w'=>e=.returned (.tuple #[.int .i64 sc.length,.int .i64 0])/\Beside b w w'/\NamesIs w' b (sc++[s]) ar/\Keep16 b w w':=by
 have HN:Hi _:=zD9 h h8 s
 have c:=h.sn
 have hlt:=h.lt
 have hfz:=h.warm
 have hl1:(sc.length:Int)<8:=by omega
 have hl2:((sc.length:Int)==8)=false:=by rw [beq_eq_false_iff_ne];omega
 have hl3:¬sc.length=14:=by omega
 have hl4:¬14=sc.length:=by omega
 obtain ⟨v0,r0⟩:=h.room sc.length (by omega)
 clear h
 go_enter Tryz.func168,Tryz.ntmps168
 go_wp2_with fail
 go_region
 go_wp2_with fail
 go_ret2
 exact ⟨rfl,Beside.drew (Beside.set (Beside.set (Beside.of (Below.refl _ _)) _ _) _ _),HN.o.1.below ((Below.refl _ _).drew),HN.o.2⟩
theorem zz3 (b:Nat) (s:ByteArray) (n:Int) (sc:List ByteArray) (ar:List (ByteArray×Nat)) (w:World) (h:NamesIs w b sc ar) (h3:ar.length=3) :
  Calls Tryz.prog 169 #[.pointer (some ⟨b,0,none⟩),.agg #[.string s,.int .i64 n]] w fun e w'=>e=.returned (.tuple #[.int .i64 0,.int .i64 45])/\Below w.heap.size w w':=by
 have c:=h.aln
 have hlt:=h.lt
 rw [h3] at c
 have hne:¬b=w.heap.size:=by omega
 clear h h3
 go_enter Tryz.func169,Tryz.ntmps169
 go_wp2_with fail
 go_ret2
 exact ⟨rfl,(Below.refl _ _).alloc (Nat.le_refl _) _⟩
theorem Beside.alloc {b:Nat} {w w1:World} (h:Beside b w w1) (o:Obj):Beside b w (w1.alloc o) :=
 ⟨h.low.alloc (Nat.zero_le _) o,fun q hq hl=>(Below.heap_alloc w1 o q (Nat.lt_of_lt_of_le hl h.low.size)).trans (h.block q hq hl)⟩
theorem zJ4 {w:World} {b:Nat} {sc:List ByteArray} {ar:List (ByteArray×Nat)} (h:NamesIs w b sc ar) (h3:ar.length<3) (s:ByteArray) (n:Nat) :
  NamesIs (((w.setCell ⟨b,8+ar.length*2,none⟩ (.string s)).setCell ⟨b,8+ar.length*2+1,none⟩ (.int .i64 n)).setCell ⟨b,15,none⟩ (.int .i64 ((ar.length:Int)+1))) b sc (ar++[(s,n)])/\Keep16 b w (((w.setCell ⟨b,8+ar.length*2,none⟩ (.string s)).setCell ⟨b,8+ar.length*2+1,none⟩ (.int .i64 n)).setCell ⟨b,15,none⟩ (.int .i64 ((ar.length:Int)+1))):=by
 obtain ⟨v0,r0⟩:=h.room (8+ar.length*2) (by omega)
 obtain ⟨v1,r1⟩:=h.room (8+ar.length*2+1) (by omega)
 obtain ⟨x1,s1⟩:=cell?_setCell_some (p:=⟨b,8+ar.length*2,none⟩) (x:=.string s) r1
 obtain ⟨x2,s2⟩:=cell?_setCell_some (p:=⟨b,8+ar.length*2,none⟩) (x:=.string s) h.aln
 obtain ⟨y2,t2⟩:=cell?_setCell_some (p:=⟨b,8+ar.length*2+1,none⟩) (x:=.int .i64 n) s2
 have key:∀ o,(((w.setCell ⟨b,8+ar.length*2,none⟩ (.string s)).setCell ⟨b,8+ar.length*2+1,none⟩ (.int .i64 n)).setCell ⟨b,15,none⟩ (.int .i64 ((ar.length:Int)+1))).cell? ⟨b,o,none⟩=if o=15 then some (.int .i64 ((ar.length:Int)+1)) else if o=8+ar.length*2+1 then some (.int .i64 n) else if o=8+ar.length*2 then some (.string s) else w.cell? ⟨b,o,none⟩:=fun o=>by
  rw [cs _ b 15 o _ _ t2,cs _ b (8+ar.length*2+1) o _ _ s1,cs _ b (8+ar.length*2) o _ _ r0]
 have hsl:=h.sl
 refine ⟨⟨by simpa using h.lt,h.sl,by simp;omega,?_,?_,?_,?_,?_,?_,fun i=>by simpa using h.warm i⟩,?_⟩
 ·intro i hi
  rw [key,if_neg (by omega),if_neg (by omega),if_neg (by omega)];exact h.str i hi
 ·intro i hi
  simp at hi
  rw [key,if_neg (by omega),if_neg (by omega)]
  by_cases e:i=ar.length
  ·rw [if_pos (by omega)];simp [e]
  rw [if_neg (by omega),h.an i (by omega),List.getElem_append_left (by omega)]
 ·intro i hi
  simp at hi
  rw [key,if_neg (by omega)]
  by_cases e:i=ar.length
  ·rw [if_pos (by omega)];simp [e]
  rw [if_neg (by omega),if_neg (by omega),h.av i (by omega),List.getElem_append_left (by omega)]
 ·rw [key,if_neg (by omega),if_neg (by omega),if_neg (by omega)];exact h.sn
 ·rw [key,if_pos rfl];simp
 ·intro i hi
  rw [key]
  repeat' split
  all_goals first | exact ⟨_,rfl⟩ | exact h.room i hi
 intro o ho
 rw [key,if_neg (by omega),if_neg (by omega),if_neg (by omega)]
theorem zE0 (b:Nat) (s:ByteArray) (n:Nat) (sc:List ByteArray) (ar:List (ByteArray×Nat)) (w:World) (h:NamesIs w b sc ar) (h3:ar.length<3) :
  Calls Tryz.prog 169 #[.pointer (some ⟨b,0,none⟩),.agg #[.string s,.int .i64 n]] w fun e w'=>e=.returned (.tuple #[.int .i64 ar.length,.int .i64 0])/\Beside b w w'/\NamesIs w' b sc (ar++[(s,n)])/\Keep16 b w w':=by
 have HN:Hi _:=zJ4 h h3 s n
 have c:=h.aln
 have hlt:=h.lt
 have hfz:=h.warm
 have hl1:(ar.length:Int)<3:=by omega
 have hl2:((ar.length:Int)==3)=false:=by rw [beq_eq_false_iff_ne];omega
 have hne:¬b=w.heap.size:=by omega
 have hne2:¬w.heap.size=b:=by omega
 obtain ⟨v0,r0⟩:=h.room (8+ar.length*2) (by omega)
 obtain ⟨v1,r1⟩:=h.room (8+ar.length*2+1) (by omega)
 clear h
 go_enter Tryz.func169,Tryz.ntmps169
 go_wp2_with fail
 go_region
 go_wp2_with fail
 go_ret2
 have hA:∀ {W:World} {o:Obj},Below W.heap.size W (W.alloc o).drew:=((Below.refl _ _).alloc (Nat.le_refl _) _).drew
 refine ⟨rfl,Beside.drew (Beside.alloc (Beside.set (Beside.set (Beside.set (Beside.of (Below.refl _ _)) _ _) _ _) _ _) _),HN.o.1.below hA,fun o ho=>?_⟩
 exact (hA.cell (p:=⟨b,o,none⟩) (by simpa using hlt)).trans (HN.o.2 o ho)
def declD (sc:List ByteArray) (ar:List (ByteArray×Nat)) (n:Nd):Int×Int×List ByteArray×List (ByteArray×Nat) :=
 if hasB sc ar n.name.toList then (0,40,sc,ar)
 else if n.kind=0 then (if sc.length=8 then (0,44,sc,ar) else (sc.length,0,sc++[n.name],ar))
 else if n.num<1\/16<n.num then (0,43,sc,ar)
 else if ar.length=3 then (0,45,sc,ar) else (ar.length,0,sc,ar++[(n.name,n.num.toNat)])
structure Named (b:Nat) (w w':World) (sc:List ByteArray) (ar:List (ByteArray×Nat)):Prop where
 beside:Beside b w w'
 names:NamesIs w' b sc ar
 keep:Keep16 b w w'
theorem Named.of {b:Nat} {w w':World} {sc:List ByteArray} {ar:List (ByteArray×Nat)} (h:NamesIs w b sc ar) (hb:Below w.heap.size w w'):Named b w w' sc ar :=
 ⟨Beside.of hb,h.below hb,fun o _=>hb.cell (p:=⟨b,o,none⟩) h.lt⟩
theorem Named.after {b:Nat} {w w1 w2:World} {sc sc1:List ByteArray} {ar ar1:List (ByteArray×Nat)} (h:NamesIs w b sc ar) (hb:Below w.heap.size w w1) (h2:Named b w1 w2 sc1 ar1):Named b w w2 sc1 ar1 :=
 ⟨⟨(hb.mono (Nat.zero_le _)).trans h2.beside.low,fun q hq hl=>(h2.beside.block q hq (Nat.lt_of_lt_of_le hl hb.size)).trans (hb.block q hl)⟩,h2.names,fun o ho=>(h2.keep o ho).trans (hb.cell (p:=⟨b,o,none⟩) h.lt)⟩
theorem zJ5 (b:Nat) (n:Nd) (sc:List ByteArray) (ar:List (ByteArray×Nat)) (w:World) (h:NamesIs w b sc ar) :
  Calls Tryz.prog 160 #[.pointer (some ⟨b,0,none⟩),ndVal n] w fun e w'=>e=.returned (.tuple #[.int .i64 (declD sc ar n).1,.int .i64 (declD sc ar n).2.1])/\Named b w w' (declD sc ar n).2.2.1 (declD sc ar n).2.2.2:=by
 have HN:Hi _:=h
 have hlt:=h.lt
 clear h
 have HB0:Hi (Below w.heap.size w (w.alloc (.cells #[.int .i64 n.depth,.int .i64 n.kind,.string n.name,.int .i64 n.num,.int .i64 n.op,.int .i64 n.pos] 75))):=(Below.refl _ _).alloc (Nat.le_refl _) _
 go_enter Tryz.func160,Tryz.ntmps160
 go_wp2_with fail
 refine (zZ5 b n.name sc ar _ (HN.o.below HB0.o)).mono ?_
 rintro e w1 ⟨rfl,hb1⟩
 have HB1:Hi (Below w.heap.size w w1):=HB0.o.trans (hb1.mono (by simp))
 have HN1:Hi _:=HN.o.below HB1.o
 have d1:w1.cell? ⟨w.heap.size,1,none⟩=some (.int .i64 n.kind):=by rw [(bcell hb1).1 _ _ (by simp)];simp [go_sem]
 have d2:w1.cell? ⟨w.heap.size,2,none⟩=some (.string n.name):=by rw [(bcell hb1).1 _ _ (by simp)];simp [go_sem]
 have d3:w1.cell? ⟨w.heap.size,3,none⟩=some (.int .i64 n.num):=by rw [(bcell hb1).1 _ _ (by simp)];simp [go_sem]
 clear hb1
 cases hh:hasB sc ar n.name.toList
 ·by_cases hk:n.kind=0
  ·by_cases h8:sc.length=8
   ·have HE:Hi (declD sc ar n=(0,44,sc,ar)):=by unfold Hi declD;rw [hh,if_neg (by simp),if_pos hk,if_pos h8]
    go_wp2_with fail
    refine (zw2 b n.name sc ar _ HN1.o h8).mono ?_
    rintro e w2 ⟨rfl,hw2⟩
    replace hw2:=hw2.symm
    subst hw2
    go_wp2_with fail
    go_ret2
    rw [HE.o]
    exact ⟨rfl,Named.of HN.o HB1.o⟩
   have hs8:=HN1.o.sl
   have HE:Hi (declD sc ar n=((sc.length:Int),0,sc++[n.name],ar)):=by unfold Hi declD;rw [hh,if_neg (by simp),if_pos hk,if_neg h8]
   go_wp2_with fail
   refine (zz2 b n.name sc ar _ HN1.o (by omega)).mono ?_
   rintro e w2 ⟨rfl,hb2,hn2,hk2⟩
   go_wp2_with fail
   go_ret2
   rw [HE.o]
   exact ⟨rfl,Named.after HN.o HB1.o ⟨hb2,hn2,hk2⟩⟩
  have hk':(n.kind==0)=false:=by rw [beq_eq_false_iff_ne];exact hk
  by_cases hnum:n.num<1\/16<n.num
  ·have HE:Hi (declD sc ar n=(0,43,sc,ar)):=by unfold Hi declD;rw [hh,if_neg (by simp),if_neg hk,if_pos hnum]
   by_cases h1:n.num<1
   ·go_wp2_with fail
    go_ret2
    rw [HE.o]
    exact ⟨rfl,Named.of HN.o HB1.o⟩
   have h16:16<n.num:=by omega
   have h1':1<=n.num:=by omega
   clear h1 hnum
   go_wp2_with fail
   go_ret2
   rw [HE.o]
   exact ⟨rfl,Named.of HN.o HB1.o⟩
  have h1':1<=n.num:=by omega
  have h16:n.num<=16:=by omega
  have g1:decide (n.num<1)=false:=decide_eq_false (by omega)
  have g2:decide (16<n.num)=false:=decide_eq_false (by omega)
  obtain ⟨nn,hnn⟩:=Int.eq_ofNat_of_zero_le (show 0<=n.num by omega)
  have HNN:Hi (n.num.toNat=nn):=by unfold Hi;omega
  by_cases h3:ar.length=3
  ·have HE:Hi (declD sc ar n=(0,45,sc,ar)):=by unfold Hi declD;rw [hh,if_neg (by simp),if_neg hk,if_neg hnum,if_pos h3]
   clear hnum hnn
   go_wp2_with fail
   refine (zz3 b n.name _ sc ar _ HN1.o h3).mono ?_
   rintro e w2 ⟨rfl,hb2⟩
   go_wp2_with fail
   go_ret2
   rw [HE.o]
   exact ⟨rfl,Named.after HN.o HB1.o (Named.of HN1.o hb2)⟩
  have ha3:=HN1.o.al
  have HE:Hi (declD sc ar n=((ar.length:Int),0,sc,ar++[(n.name,nn)])):=by unfold Hi declD;rw [hh,if_neg (by simp),if_neg hk,if_neg hnum,if_neg h3,HNN.o]
  clear hnum
  have HNM:Hi (n.num=(nn:Int)):=hnn
  clear hnn
  go_wp2_with fail
  rw [HNM.o]
  refine (zE0 b n.name nn sc ar _ HN1.o (by omega)).mono ?_
  rintro e w2 ⟨rfl,hb2,hn2,hk2⟩
  go_wp2_with fail
  go_ret2
  rw [HE.o]
  exact ⟨rfl,Named.after HN.o HB1.o ⟨hb2,hn2,hk2⟩⟩
 have HE:Hi (declD sc ar n=(0,40,sc,ar)):=by unfold Hi declD;rw [hh,if_pos rfl]
 go_wp2_with fail
 go_ret2
 rw [HE.o]
 exact ⟨rfl,Named.of HN.o HB1.o⟩
def symbolD (sc:List ByteArray) (ar:List (ByteArray×Nat)) (n:Nd):Int×Int×List ByteArray×List (ByteArray×Nat) :=
 if n.kind=0\/n.kind=1 then declD sc ar n
 else if n.kind=2\/n.kind=4\/n.kind=12 then ((knownD sc ar n.name.toList (idxFrom sc n.name.toList 0)).1,(knownD sc ar n.name.toList (idxFrom sc n.name.toList 0)).2,sc,ar)
 else if n.kind=3\/n.kind=13 then ((knownD sc ar n.name.toList (aidxFrom ar n.name.toList 0)).1,(knownD sc ar n.name.toList (aidxFrom ar n.name.toList 0)).2,sc,ar)
 else (-1,0,sc,ar)
end
section
open Go.RowKit
theorem zT4 (b:Nat) (n:Nd) (sc:List ByteArray) (ar:List (ByteArray×Nat)) (w:World) (h:NamesIs w b sc ar) :
  Calls Tryz.prog 149 #[.pointer (some ⟨b,0,none⟩),ndVal n] w fun e w'=>e=.returned (.tuple #[.int .i64 (symbolD sc ar n).1,.int .i64 (symbolD sc ar n).2.1])/\Named b w w' (symbolD sc ar n).2.2.1 (symbolD sc ar n).2.2.2:=by
 have HN:Hi _:=h
 have hlt:=h.lt
 clear h
 obtain ⟨nd,nk,nm,nu,no,np⟩:=n
 have HB0:Hi (∀ o,Below w.heap.size w (w.alloc o)):=fun o=>(Below.refl _ _).alloc (Nat.le_refl _) _
 by_cases k01:nk=0\/nk=1
 ·have HE:Hi (symbolD sc ar ⟨nd,nk,nm,nu,no,np⟩=declD sc ar ⟨nd,nk,nm,nu,no,np⟩):=by unfold Hi symbolD;rw [if_pos k01]
  go_enter Tryz.func149,Tryz.ntmps149
  rcases k01 with rfl | rfl
  all_goals
   go_wp2_with fail
   refine (zJ5 b ⟨nd,_,nm,nu,no,np⟩ sc ar _ (HN.o.below (HB0.o _))).mono ?_
   rintro e w1 ⟨rfl,hn1⟩
   go_wp2_with fail
   go_ret2
   rw [HE.o]
   exact ⟨rfl,Named.after HN.o (HB0.o _) hn1⟩
 have a0:¬nk=0:=fun h=>k01 (.inl h)
 have a1:¬nk=1:=fun h=>k01 (.inr h)
 have b0:(nk==0)=false:=by rw [beq_eq_false_iff_ne];exact a0
 have b1:(nk==1)=false:=by rw [beq_eq_false_iff_ne];exact a1
 by_cases k2:nk=2\/nk=4\/nk=12
 ·have HE:Hi (symbolD sc ar ⟨nd,nk,nm,nu,no,np⟩=((knownD sc ar nm.toList (idxFrom sc nm.toList 0)).1,(knownD sc ar nm.toList (idxFrom sc nm.toList 0)).2,sc,ar)):=by unfold Hi symbolD;rw [if_neg k01,if_pos k2]
  clear k01
  go_enter Tryz.func149,Tryz.ntmps149
  rcases k2 with rfl | rfl | rfl
  all_goals
   go_wp2_with fail
   go_region_with (first
    | (go_at_call 162;refine (zw6 b nm sc ar _ (HN.o.below (by first | exact (HB0.o _).drew | exact HB0.o _))).mono ?_;rintro e w1 ⟨rfl,n1,rfl⟩)
    | (go_at_call 161;refine (zD8 b nm _ sc ar _ (HN.o.below (by first | exact below_drewN (HB0.o _).drew _ | exact below_drewN (HB0.o _) _))).mono ?_;rintro e w2 ⟨rfl,hb2⟩))
   all_goals
    go_wp2_with fail
    go_ret2
    rw [HE.o]
    refine ⟨rfl,Named.of HN.o ?_⟩
    first
     | exact (below_drewN (HB0.o _).drew _).trans (hb2.mono (by simp))
     | exact (below_drewN (HB0.o _) _).trans (hb2.mono (by simp))
 by_cases k3:nk=3\/nk=13
 ·have HE:Hi (symbolD sc ar ⟨nd,nk,nm,nu,no,np⟩=((knownD sc ar nm.toList (aidxFrom ar nm.toList 0)).1,(knownD sc ar nm.toList (aidxFrom ar nm.toList 0)).2,sc,ar)):=by unfold Hi symbolD;rw [if_neg k01,if_neg k2,if_pos k3]
  clear k01 k2
  go_enter Tryz.func149,Tryz.ntmps149
  rcases k3 with rfl | rfl
  all_goals
   go_wp2_with fail
   go_region_with (first
    | (go_at_call 163;refine (zD7 b nm sc ar _ (HN.o.below (by first | exact (HB0.o _).drew | exact HB0.o _))).mono ?_;rintro e w1 ⟨rfl,hb1⟩;have c2:w1.cell? ⟨w.heap.size,2,none⟩=some (.string nm):=(hb1.cell (p:=⟨w.heap.size,2,none⟩) (by simp)).trans (by simp [go_sem]))
    | (go_at_call 161;refine (zD8 b nm _ sc ar _ (HN.o.below (by first | exact ((HB0.o _).drew).trans (hb1.mono (by simp)) | exact (HB0.o _).trans (hb1.mono (by simp))))).mono ?_;rintro e w2 ⟨rfl,hb2⟩))
   all_goals
    go_wp2_with fail
    go_ret2
    rw [HE.o]
    refine ⟨rfl,Named.of HN.o ?_⟩
    first
     | exact (((HB0.o _).drew).trans (hb1.mono (by simp))).trans (hb2.mono (Nat.le_trans (by simp) hb1.size))
     | exact ((HB0.o _).trans (hb1.mono (by simp))).trans (hb2.mono (Nat.le_trans (by simp) hb1.size))
 have HE:Hi (symbolD sc ar ⟨nd,nk,nm,nu,no,np⟩=(-1,0,sc,ar)):=by unfold Hi symbolD;rw [if_neg k01,if_neg k2,if_neg k3]
 have b2:(nk==2)=false:=by rw [beq_eq_false_iff_ne];exact fun h=>k2 (.inl h)
 have b4:(nk==4)=false:=by rw [beq_eq_false_iff_ne];exact fun h=>k2 (.inr (.inl h))
 have b12:(nk==12)=false:=by rw [beq_eq_false_iff_ne];exact fun h=>k2 (.inr (.inr h))
 have b3:(nk==3)=false:=by rw [beq_eq_false_iff_ne];exact fun h=>k3 (.inl h)
 have b13:(nk==13)=false:=by rw [beq_eq_false_iff_ne];exact fun h=>k3 (.inr h)
 clear k01 k2 k3 a0 a1
 go_enter Tryz.func149,Tryz.ntmps149
 go_wp2_with fail
 go_ret2
 rw [HE.o]
 exact ⟨rfl,Named.of HN.o (HB0.o _)⟩
end
section
open Go.RowKit
structure Rd where
 sc:List ByteArray
 ar:List (ByteArray×Nat)
 sy:List Int
 so:List Int
 si:List Nat
 nu:Nat->Bool
structure RestIs (w:World) (b:Nat) (r:Rd):Prop where
 len:r.so.length=r.sy.length
 most:r.sy.length<=300
 sites:r.si.length<=12
 sy:∀ (i:Nat) (h:i<r.sy.length),w.cell? ⟨b,16+i,none⟩=some (.int .i64 r.sy[i])
 so:∀ (i:Nat) (h:i<r.so.length),w.cell? ⟨b,316+i,none⟩=some (.int .i64 r.so[i])
 si:∀ (i:Nat) (h:i<r.si.length),w.cell? ⟨b,616+i,none⟩=some (.int .i64 r.si[i])
 found:w.cell? ⟨b,628,none⟩=some (.int .i64 r.si.length)
 nu:∀ d,d<25->w.cell? ⟨b,629+d,none⟩=some (.bool (r.nu d))
 room:∀ o,16<=o->o<654->∃ v,w.cell? ⟨b,o,none⟩=some v
structure ReadIs (w:World) (b:Nat) (r:Rd):Prop where
 names:NamesIs w b r.sc r.ar
 rest:RestIs w b r
theorem RestIs.keep {w w1:World} {b:Nat} {r:Rd} (h:RestIs w b r) (hk:Keep16 b w w1):RestIs w1 b r :=
 ⟨h.len,h.most,h.sites,fun i hi=>by rw [hk _ (by omega)];exact h.sy i hi,fun i hi=>by rw [hk _ (by omega)];exact h.so i hi,fun i hi=>by rw [hk _ (by omega)];exact h.si i hi,by rw [hk _ (by omega)];exact h.found,fun d hd=>by rw [hk _ (by omega)];exact h.nu d hd,fun o h1 h2=>by rw [hk _ h1];exact h.room o h1 h2⟩
theorem RestIs.below {w w1:World} {b:Nat} {r:Rd} (h:RestIs w b r) (hlt:b<w.heap.size) (hb:Below w.heap.size w w1):RestIs w1 b r :=
 h.keep (fun o _=>hb.cell (p:=⟨b,o,none⟩) hlt)
def putD (r:Rd) (i:Nat) (n:Nd):Int×Rd :=
 let s:=symbolD r.sc r.ar n
 if s.2.1≠0 then (s.2.1,r)
 else if exprD n&&(numberD n != r.nu (n.depth-1).toNat) then (42,r)
 else if siteD n&&r.si.length==12 then (46,r)
 else (0,⟨s.2.2.1,s.2.2.2,r.sy++[s.1],r.so++[if siteD n then (r.si.length:Int) else -1],if siteD n then r.si++[i] else r.si,fun d=>if d=n.depth.toNat then wantD n else r.nu d⟩)
end
section
open Go.RowKit
theorem NamesIs.hi {w:World} {b:Nat} {sc:List ByteArray} {ar:List (ByteArray×Nat)} (h:NamesIs w b sc ar) {o:Nat} (ho:16<=o) {u:Value} (hu:w.cell? ⟨b,o,none⟩=some u) (v:Value):NamesIs (w.setCell ⟨b,o,none⟩ v) b sc ar:=by
 have hs:=h.sl
 have ha:=h.al
 have key:∀ o',o'<16->(w.setCell ⟨b,o,none⟩ v).cell? ⟨b,o',none⟩=w.cell? ⟨b,o',none⟩:=fun o' h'=>by rw [cs _ b o o' _ _ hu,if_neg (by omega)]
 exact ⟨by simpa using h.lt,h.sl,h.al,fun i hi=>by rw [key _ (by omega)];exact h.str i hi,fun i hi=>by rw [key _ (by omega)];exact h.an i hi,fun i hi=>by rw [key _ (by omega)];exact h.av i hi,by rw [key _ (by omega)];exact h.sn,by rw [key _ (by omega)];exact h.aln,fun i hi=>by rw [key _ hi];exact h.room i hi,fun i=>by simpa using h.warm i⟩
theorem zg8 {w:World} {b o:Nat} {u v:Value} (hu:w.cell? ⟨b,o,none⟩=some u) (h:∀ o',16<=o'->o'<654->∃ x,w.cell? ⟨b,o',none⟩=some x):∀ o',16<=o'->o'<654->∃ x,(w.setCell ⟨b,o,none⟩ v).cell? ⟨b,o',none⟩=some x:=fun o' h1 h2=>by
 rw [cs _ b o o' _ _ hu]
 split
 ·exact ⟨_,rfl⟩
 exact h o' h1 h2
theorem RestIs.nu_set {w:World} {b:Nat} {r:Rd} (h:RestIs w b r) {d:Nat} (hd:d<25) (v:Bool):RestIs (w.setCell ⟨b,629+d,none⟩ (.bool v)) b { r with nu:=fun x=>if x=d then v else r.nu x }:=by
 have hu:=h.nu d hd
 have hm:=h.most
 have hs:=h.sites
 have hl:=h.len
 refine ⟨h.len,h.most,h.sites,fun i hi=>?_,fun i hi=>?_,fun i hi=>?_,?_,fun x hx=>?_,zg8 hu h.room⟩
 ·have hi':i<r.sy.length:=hi
  rw [cs _ b _ _ _ _ hu,if_neg (by omega)];exact h.sy i hi
 ·have hi':i<r.so.length:=hi
  rw [cs _ b _ _ _ _ hu,if_neg (by omega)];exact h.so i hi
 ·have hi':i<r.si.length:=hi
  rw [cs _ b _ _ _ _ hu,if_neg (by omega)];exact h.si i hi
 ·rw [cs _ b _ _ _ _ hu,if_neg (by omega)];exact h.found
 rw [cs _ b _ _ _ _ hu]
 by_cases e:x=d
 ·subst e;simp
 rw [if_neg (by omega),h.nu x hx];simp [e]
theorem RestIs.push {w:World} {b:Nat} {r:Rd} (h:RestIs w b r) (h3:r.sy.length<300) (s t:Int):RestIs ((w.setCell ⟨b,16+r.sy.length,none⟩ (.int .i64 s)).setCell ⟨b,316+r.sy.length,none⟩ (.int .i64 t)) b { r with sy:=r.sy++[s],so:=r.so++[t] }:=by
 obtain ⟨v0,r0⟩:=h.room (16+r.sy.length) (by omega) (by omega)
 obtain ⟨v1,r1⟩:=zg8 (v:=.int .i64 s) r0 h.room (316+r.sy.length) (by omega) (by omega)
 have hm:=h.most
 have hs:=h.sites
 have hl:=h.len
 have key:∀ o,((w.setCell ⟨b,16+r.sy.length,none⟩ (.int .i64 s)).setCell ⟨b,316+r.sy.length,none⟩ (.int .i64 t)).cell? ⟨b,o,none⟩=if o=316+r.sy.length then some (.int .i64 t) else if o=16+r.sy.length then some (.int .i64 s) else w.cell? ⟨b,o,none⟩:=fun o=>by
  rw [cs _ b _ o _ _ r1,cs _ b _ o _ _ r0]
 refine ⟨by simp [hl],by simp;omega,h.sites,fun i hi=>?_,fun i hi=>?_,fun i hi=>?_,?_,fun x hx=>?_,zg8 r1 (zg8 r0 h.room)⟩
 ·have hi':i<r.sy.length+1:=by simpa using hi
  rw [key,if_neg (by omega)]
  by_cases e:i=r.sy.length
  ·rw [if_pos (by omega)];simp [e]
  rw [if_neg (by omega),h.sy i (by omega)]
  simp [List.getElem_append_left (show i<r.sy.length by omega)]
 ·have hi':i<r.so.length+1:=by simpa using hi
  rw [key]
  by_cases e:i=r.so.length
  ·rw [if_pos (by omega)];simp [e]
  rw [if_neg (by omega),if_neg (by omega),h.so i (by omega)]
  simp [List.getElem_append_left (show i<r.so.length by omega)]
 ·have hi':i<r.si.length:=hi
  rw [key,if_neg (by omega),if_neg (by omega)];exact h.si i hi
 ·rw [key,if_neg (by omega),if_neg (by omega)];exact h.found
 rw [key,if_neg (by omega),if_neg (by omega)];exact h.nu x hx
theorem RestIs.site {w:World} {b:Nat} {r:Rd} {so:List Int} {t:Int} (h:RestIs w b r) (hso:r.so=so++[t]) (i:Nat) (h12:r.si.length<12) :
  RestIs (((w.setCell ⟨b,316+so.length,none⟩ (.int .i64 r.si.length)).setCell ⟨b,616+r.si.length,none⟩ (.int .i64 i)).setCell ⟨b,628,none⟩ (.int .i64 ((r.si.length:Int)+1))) b { r with so:=so++[(r.si.length:Int)],si:=r.si++[i] }:=by
 have hm:=h.most
 have hl:=h.len
 have hq:r.so.length=so.length+1:=by rw [hso];simp
 obtain ⟨v0,r0⟩:=h.room (316+so.length) (by omega) (by omega)
 have m0:=zg8 (v:=.int .i64 r.si.length) r0 h.room
 obtain ⟨v1,r1⟩:=m0 (616+r.si.length) (by omega) (by omega)
 have m1:=zg8 (v:=.int .i64 i) r1 m0
 obtain ⟨v2,r2⟩:=m1 628 (by omega) (by omega)
 have key:∀ o,(((w.setCell ⟨b,316+so.length,none⟩ (.int .i64 r.si.length)).setCell ⟨b,616+r.si.length,none⟩ (.int .i64 i)).setCell ⟨b,628,none⟩ (.int .i64 ((r.si.length:Int)+1))).cell? ⟨b,o,none⟩=if o=628 then some (.int .i64 ((r.si.length:Int)+1)) else if o=616+r.si.length then some (.int .i64 i) else if o=316+so.length then some (.int .i64 r.si.length) else w.cell? ⟨b,o,none⟩:=fun o=>by
  rw [cs _ b _ o _ _ r2,cs _ b _ o _ _ r1,cs _ b _ o _ _ r0]
 refine ⟨by simp;omega,hm,by simp;omega,fun j hj=>?_,fun j hj=>?_,fun j hj=>?_,?_,fun x hx=>?_,zg8 r2 m1⟩
 ·have hj':j<r.sy.length:=hj
  rw [key,if_neg (by omega),if_neg (by omega),if_neg (by omega)];exact h.sy j hj
 ·have hj':j<so.length+1:=by simpa using hj
  rw [key,if_neg (by omega),if_neg (by omega)]
  by_cases e:j=so.length
  ·rw [if_pos (by omega)];simp [e]
  rw [if_neg (by omega),h.so j (by omega)]
  simp [hso,List.getElem_append_left (show j<so.length by omega)]
 ·have hj':j<r.si.length+1:=by simpa using hj
  rw [key,if_neg (by omega)]
  by_cases e:j=r.si.length
  ·rw [if_pos (by omega)];simp [e]
  rw [if_neg (by omega),if_neg (by omega),h.si j (by omega)]
  simp [List.getElem_append_left (show j<r.si.length by omega)]
 ·rw [key,if_pos rfl];simp
 rw [key,if_neg (by omega),if_neg (by omega),if_neg (by omega)];exact h.nu x hx
theorem RestIs.other {w:World} {b:Nat} {r:Rd} (h:RestIs w b r) (sc:List ByteArray) (ar:List (ByteArray×Nat)):RestIs w b { r with sc:=sc,ar:=ar } :=
 ⟨h.len,h.most,h.sites,h.sy,h.so,h.si,h.found,h.nu,h.room⟩
theorem RestIs.site_names {w:World} {b:Nat} {r:Rd} {so:List Int} {t:Int} {sc:List ByteArray} {ar:List (ByteArray×Nat)} (h:RestIs w b r) (hn:NamesIs w b sc ar) (hso:r.so=so++[t]) (i:Nat) (h12:r.si.length<12) :
  NamesIs (((w.setCell ⟨b,316+so.length,none⟩ (.int .i64 r.si.length)).setCell ⟨b,616+r.si.length,none⟩ (.int .i64 i)).setCell ⟨b,628,none⟩ (.int .i64 ((r.si.length:Int)+1))) b sc ar:=by
 have hm:=h.most
 have hl:=h.len
 have hq:r.so.length=so.length+1:=by rw [hso];simp
 obtain ⟨v0,r0⟩:=h.room (316+so.length) (by omega) (by omega)
 have m0:=zg8 (v:=.int .i64 r.si.length) r0 h.room
 obtain ⟨v1,r1⟩:=m0 (616+r.si.length) (by omega) (by omega)
 have m1:=zg8 (v:=.int .i64 i) r1 m0
 obtain ⟨v2,r2⟩:=m1 628 (by omega) (by omega)
 exact ((hn.hi (by omega) r0 _).hi (by omega) r1 _).hi (by omega) r2 _
structure NdC (w:World) (g:Nat) (n:Nd):Prop where
 lt:g<w.heap.size
 c0:w.cell? ⟨g,0,none⟩=some (.int .i64 n.depth)
 c1:w.cell? ⟨g,1,none⟩=some (.int .i64 n.kind)
 c2:w.cell? ⟨g,2,none⟩=some (.string n.name)
 c3:w.cell? ⟨g,3,none⟩=some (.int .i64 n.num)
 c4:w.cell? ⟨g,4,none⟩=some (.int .i64 n.op)
 c5:w.cell? ⟨g,5,none⟩=some (.int .i64 n.pos)
theorem NdC.below {w w1:World} {g:Nat} {n:Nd} (h:NdC w g n) (hb:Below w.heap.size w w1):NdC w1 g n :=
 have k:∀ o,w1.cell? ⟨g,o,none⟩=w.cell? ⟨g,o,none⟩:=fun o=>hb.cell (p:=⟨g,o,none⟩) h.lt
 ⟨Nat.lt_of_lt_of_le h.lt hb.size,(k 0).trans h.c0,(k 1).trans h.c1,(k 2).trans h.c2,(k 3).trans h.c3,(k 4).trans h.c4,(k 5).trans h.c5⟩
theorem NdC.beside {w w1:World} {b g:Nat} {n:Nd} (h:NdC w g n) (hg:g≠b) (hb:Beside b w w1):NdC w1 g n :=
 have k:∀ o,w1.cell? ⟨g,o,none⟩=w.cell? ⟨g,o,none⟩:=fun o=>hb.cell hg h.lt
 ⟨Nat.lt_of_lt_of_le h.lt hb.low.size,(k 0).trans h.c0,(k 1).trans h.c1,(k 2).trans h.c2,(k 3).trans h.c3,(k 4).trans h.c4,(k 5).trans h.c5⟩
theorem Beside.trans {b:Nat} {w w1 w2:World} (h:Beside b w w1) (h2:Beside b w1 w2):Beside b w w2 :=
 ⟨h.low.trans h2.low,fun q hq hl=>(h2.block q hq (Nat.lt_of_lt_of_le hl h.low.size)).trans (h.block q hq hl)⟩
end
end Go.Proofs.YtbneneijdgcccaaGreatDoor
