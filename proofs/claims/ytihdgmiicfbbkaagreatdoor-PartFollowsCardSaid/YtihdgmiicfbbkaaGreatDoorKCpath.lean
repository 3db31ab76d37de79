import Derived.Test.YtihdgmiicfbbkaaGreatDoorKCname
set_option maxHeartbeats 8000000
set_option linter.all false
namespace Go.Proofs.YtihdgmiicfbbkaaGreatDoor
section
open Go.RowKit
theorem ym5 {k:IntKind} {a b:Int} (h:a=b):Ending.returned (.int k a)=.returned (.int k b):=by rw [h]
def rSort (k:Nat):Int:=[1,1,2,2,2,2,2,2,2,3,4,4,4,4,4,4].getD k 0
def rNamed (k:Nat):Bool:=[true,true,true,true,true,false,false,false,false,false,false,false,true,true,false,false].getD k false
def rMost (k:Nat):Int:=[0,9223372036854775807,0,0,0,0,0,0,0,0,9223372036854775807,1,0,0,0,0].getD k 0
def rOp0 (k:Nat):Int:=[0,0,0,0,0,0,0,0,0,0,0,0,0,0,1,3].getD k 0
def rOp1 (k:Nat):Int:=[0,0,0,0,0,0,0,0,0,0,0,0,0,0,2,15].getD k 0
def rH0 (k:Nat):Int:=[0,0,4,4,0,4,0,4,4,0,0,0,0,4,4,4].getD k 0
def rH1 (k:Nat):Int:=[0,0,0,4,0,0,0,3,3,0,0,0,0,0,0,4].getD k 0
def rH2 (k:Nat):Int:=[0,0,0,0,0,0,0,3,0,0,0,0,0,0,0,0].getD k 0
def rWant (k:Nat):Int:=[0,0,1,2,0,1,0,2,2,0,0,0,0,1,1,2].getD k 0
structure RulesIs (w:World):Prop where
 lt:5<w.heap.size
 sort:∀ k:Nat,k<16->w.cell? ⟨5,k*9,none⟩=some (.int .u8 (rSort k))
 named:∀ k:Nat,k<16->w.cell? ⟨5,k*9+1,none⟩=some (.bool (rNamed k))
 most:∀ k:Nat,k<16->w.cell? ⟨5,k*9+2,none⟩=some (nI (rMost k))
 op0:∀ k:Nat,k<16->w.cell? ⟨5,k*9+3,none⟩=some (nI (rOp0 k))
 op1:∀ k:Nat,k<16->w.cell? ⟨5,k*9+3+1,none⟩=some (nI (rOp1 k))
 h0:∀ k:Nat,k<16->w.cell? ⟨5,k*9+5,none⟩=some (.int .u8 (rH0 k))
 h1:∀ k:Nat,k<16->w.cell? ⟨5,k*9+5+1,none⟩=some (.int .u8 (rH1 k))
 h2:∀ k:Nat,k<16->w.cell? ⟨5,k*9+5+2,none⟩=some (.int .u8 (rH2 k))
 want:∀ k:Nat,k<16->w.cell? ⟨5,k*9+8,none⟩=some (.int .u8 (rWant k))
def nextD (k h:Nat):Int:=if k=9 then 2 else if h=0 then rH0 k else if h=1 then rH1 k else if h=2 then rH2 k else 0
theorem ym6 (k h:Nat) (hk:k<16) (hh:k=9\/h<=3) (w:World) (hR:RulesIs w) :
  Calls Tryz.prog 173 #[.agg #[nI k,nI h]] w fun e w'=>e=.returned (.int .u8 (nextD k h))/\Below w.heap.size w w':=by
 have c0:=hR.h0 k hk;have c1:=hR.h1 k hk;have c2:=hR.h2 k hk;have hlt:=hR.lt;have hne:¬w.heap.size=5:=oM;have hne2:¬5=w.heap.size:=oM;clear hR;by_cases h9:k=9
 ·subst h9
  clear hh;go_enter Tryz.func173,Tryz.ntmps173;go_wp2;go_ret;exact ⟨rfl,(Below.refl _ _).alloc (nR_ _) _⟩
 have h9':((k:Int)==9)=false:=by rw [beq_eq_false_iff_ne];omega
 have HN:Hi (nextD k h=if h=0 then rH0 k else if h=1 then rH1 k else if h=2 then rH2 k else 0):=by unfold Hi nextD;rw [if_neg h9]
 replace hh:h<=3:=oM;clear h9;go_enter Tryz.func173,Tryz.ntmps173;have h4:h=0\/h=1\/h=2\/h=3:=oM;rcases h4 with rfl | rfl | rfl | rfl
 all_goals
  go_wp2;go_ret;exact ⟨ym5 (by rw [HN.o];rfl),(((Below.refl _ _).alloc (Nat.le_refl _) _).alloc (by simp) _)⟩
def fitB (k:Nat) (name:List UInt8) (num op:Int):Bool :=
 (if rNamed k then nameB name else name.isEmpty)&&(decide (0<=num)&&decide (num<=rMost k)&&decide (rOp0 k<=op)&&decide (op<=rOp1 k))
theorem yx3 (d k num op a:Int) (s:ByteArray) (w:World) (hk:k<0\/15<k) :
  Calls Tryz.prog 148 #[.agg #[nI d,nI k,.string s,nI num,nI op,nI a]] w fun e w'=>e=.returned (.bool false)/\Below w.heap.size w w':=by
 go_enter Tryz.func148,Tryz.ntmps148;rcases hk with hk | hk
 ·go_wp2
  go_ret;exact ⟨rfl,(Below.refl _ _).alloc (nR_ _) _⟩
 have h0:0<=k:=oM;have h16:16<=k:=oM;go_wp2;go_ret;exact ⟨rfl,(Below.refl _ _).alloc (nR_ _) _⟩
theorem yx4 (d num op a:Int) (k:Nat) (s:ByteArray) (w:World) (hk:k<16) (hs:s.size<=maxLen) (hR:RulesIs w) :
  Calls Tryz.prog 148 #[.agg #[nI d,nI k,.string s,nI num,nI op,nI a]] w fun e w'=>e=.returned (.bool (fitB k s.toList num op))/\Below w.heap.size w w':=by
 have HS:Hi _:=hs;clear hs;have c0:=hR.h0 k hk;have c1:=hR.h1 k hk;have c2:=hR.h2 k hk;have c3:=hR.sort k hk;have c4:=hR.named k hk;have c5:=hR.most k hk;have c6:=hR.op0 k hk;have c7:=hR.op1 k hk;have c8:=hR.want k hk;have hlt:=hR.lt;have hne:¬w.heap.size=5:=oM;have hne2:¬5=w.heap.size:=oM;clear hR;go_enter Tryz.func148,Tryz.ntmps148;cases hn:rNamed k
 ·go_wp2
  all_goals (go_ret;refine ⟨za4 ?_,((Below.refl _ _).alloc (nR_ _) _).alloc sI _⟩)
  all_goals (clear c0 c1 c2 c3 c4 c5 c6 c7 c8 hne hne2 hlt HS;first | (simp_all [fitB];done) | (simp_all [fitB];omega))
 go_wp2_with fail;refine (zT5 _ _ HS.o).mono ?_;rintro e w1 ⟨rfl,rfl⟩;cases hm:nameB s.toList
 all_goals
  go_wp2
  all_goals (go_ret;refine ⟨za4 ?_,((Below.refl _ _).alloc (nR_ _) _).alloc sI _⟩)
  all_goals (clear c0 c1 c2 c3 c4 c5 c6 c7 c8 hne hne2 hlt HS;first | (simp_all [fitB];done) | (simp_all [fitB];omega))
end
section
open Go.RowKit
abbrev Hold:=Nat×Nat
structure PathIs (w:World) (b:Nat) (st:List Hold) (begun:Bool):Prop where
 lt:b<w.heap.size
 len:st.length<=25
 depth:w.cell? (aD b 50)=some (nI st.length)
 begun:w.cell? (aD b 51)=some (.bool begun)
 kind:∀ (i:Nat) (h:i<st.length),w.cell? ⟨b,i*2,none⟩=some (nI st[i].1)
 held:∀ (i:Nat) (h:i<st.length),w.cell? ⟨b,i*2+1,none⟩=some (nI st[i].2)
 room:∀ i,i<52->∃ v,w.cell? (aD b i)=some v
 warm:∀ i,w.frozen? (aD b i)=false
theorem RulesIs.below {w w1:World} (h:RulesIs w) (hb:Below w.heap.size w w1):RulesIs w1:=by
 have hc:∀ o,w1.cell? ⟨5,o,none⟩=w.cell? ⟨5,o,none⟩:=fun o=>hb.cell (p:=⟨5,o,none⟩) h.lt;have hz:=hb.size;have:=h.lt;constructor
 case lt=>omega
 all_goals (intro k hk;rw [hc])
 ·exact h.sort k hk
 ·exact h.named k hk
 ·exact h.most k hk
 ·exact h.op0 k hk
 ·exact h.op1 k hk
 ·exact h.h0 k hk
 ·exact h.h1 k hk
 ·exact h.h2 k hk
 exact h.want k hk
theorem PathIs.below {w w1:World} {b:Nat} {st:List Hold} {g:Bool} (h:PathIs w b st g) (hb:Below w.heap.size w w1):PathIs w1 b st g:=by have hc:∀ o,w1.cell? (aD b o)=w.cell? (aD b o):=fun o=>hb.cell (p:=⟨b,o,none⟩) h.lt;have hf:∀ o,w1.frozen? (aD b o)=w.frozen? (aD b o):=fun o=>hb.frozen (p:=⟨b,o,none⟩) h.lt;have hz:=hb.size;have:=h.lt;exact ⟨by omega,h.len,by rw [hc];exact h.depth,by rw [hc];exact h.begun,fun i hi=>by rw [hc];exact h.kind i hi,fun i hi=>by rw [hc];exact h.held i hi,fun i hi=>by rw [hc];exact h.room i hi,fun i=>by rw [hf];exact h.warm i⟩
def wantsB (st:List Hold):Bool:=st.any fun h=>decide ((h.2:Int)<rWant h.1)
theorem ym7 (k:Nat):0<=rWant k/\rWant k<=2:=by
 by_cases h:k<16
 ·have:∀ j:Fin 16,0<=rWant j/\rWant j<=2:=by decide
  exact this ⟨k,h⟩
 have:rWant k=0:=by unfold rWant;rw [List.getD_eq_getElem?_getD,List.getElem?_eq_none (by simp;omega)];rfl
 omega
theorem zj3 (b n:Nat) (st:List Hold) (g:Bool) (w:World) (hn:n<=st.length) (hn2:n<25) (hk:∀ h∈st,h.1<16) (hR:RulesIs w) (hP:PathIs w b st g) :
  Calls Tryz.prog 150 #[pA b 0,nI n] w fun e w'=>e=.returned (.bool (wantsB (st.drop n)))/\Below w.heap.size w w':=by
 have c0:=hP.depth;have hl:=hP.len;have hlt:=hP.lt;have h1:(st.length:Int)<=25:=oM;have h2:(n:Int)<=st.length:=oM;have h25:¬25=n:=oM;have HK:Hi _:=hk;have HR:Hi _:=hR;have HP:Hi _:=hP;clear hk hR hP;go_enter Tryz.func150,Tryz.ntmps150;go_wp2;go_quiet (fail);go_wp2;clear c0;go_loopw [17] (fun t wr=>∃ k:Nat,n+k<=st.length/\t=nI k/\Hi (wantsB (st.drop n)=wantsB (st.drop (n+k)))/\Below w.heap.size w wr) (fun t _=>st.length-n-(intOf t).toNat)
 case atStart=>exact ⟨0,by omega,rfl,rfl,below_drewN (Below.refl _ _) _⟩
 obtain ⟨k,hk,rfl,hr,hb⟩:=hrel;by_cases hlt2:n+k<st.length
 ·have hj:k<st.length-n:=oM
  have hz:=hb.size;have HP2:=HP.o.below hb;have HR2:=HR.o.below hb;have c1:=HP2.kind (n+k) hlt2;have c2:=HP2.held (n+k) hlt2;have hmem:st[n+k]∈st:=List.getElem_mem _;have hk16:=HK.o _ hmem;have c3:=HR2.want _ hk16;have hbd:=ym7 st[n+k].1;have hlt3:=HR2.lt
  have hstep:wantsB (st.drop (n+k))=(decide ((st[n+k].2:Int)<rWant st[n+k].1)||wantsB (st.drop (n+(k+1)))):=by rw [List.drop_eq_getElem_cons hlt2];rfl
  have HST:Hi _:=hstep;clear hstep hmem HP2 HR2;generalize st[n+k].1=kd at *;generalize st[n+k].2=hd at *;rw [Nat.add_mul] at c1 c2;have hne:¬wr.heap.size=5:=oM;have hne2:¬5=wr.heap.size:=oM;have hneb:¬b=wr.heap.size:=oM;have HB:Hi (Below w.heap.size w wr):=hb;clear hb;by_cases ht:(hd:Int)<rWant kd
  ·have HF:Hi (wantsB (st.drop n)=true):=by
    unfold Hi;rw [hr.o,HST.o,decide_eq_true ht];rfl
   go_wp2;go_quiet (fail);go_wp2;go_ret;exact ⟨za4 HF.o.symm,below_drewN (Below.alloc HB.o hz _) _⟩
  have HF:Hi (wantsB (st.drop n)=wantsB (st.drop (n+(k+1)))):=by unfold Hi;rw [hr.o,HST.o,decide_eq_false ht];rfl
  have ht2:rWant kd<=(hd:Int):=oM;clear ht;go_wp2;go_quiet (fail);go_wp2;go_roundw
  case rel=>exact ⟨k+1,by omega,by go_num,HF,below_drewN (Below.alloc HB.o hz _) _⟩
  case measure=>simp [intOf];omega
 have ek:n+k=st.length:=oM;have hj:¬k<st.length-n:=oM
 have HF:Hi (wantsB (st.drop n)=false):=by unfold Hi;rw [hr.o,ek,List.drop_length];rfl
 have hj2:st.length-n<=k:=oM;clear ek;go_wp2;go_ret;exact ⟨za4 HF.o.symm,hb⟩
def takesB (st:List Hold) (g:Bool) (n:Nat) (s:Int):Bool :=
 if n=0 then (s==2||(s==1 && !g)) else nextD (st.getD (n-1) (0,0)).1 (st.getD (n-1) (0,0)).2==s
theorem zs6 (b n:Nat) (s:Int) (st:List Hold) (g:Bool) (w:World) (hn:n<=st.length) (hn2:n<=25) (hk:∀ h∈st,h.1<16/\(h.1=9\/h.2<=3)) (hR:RulesIs w) (hP:PathIs w b st g) :
  Calls Tryz.prog 164 #[pA b 0,nI n,.int .u8 s] w fun e w'=>e=.returned (.bool (takesB st g n s))/\Below w.heap.size w w':=by
 by_cases h0:n=0
 ·subst h0
  have c1:=hP.begun;have hlt:=hP.lt;clear hk hR hP hn;go_enter Tryz.func164,Tryz.ntmps164;cases g
  all_goals
   go_wp2
   all_goals (go_ret;refine ⟨za4 ?_,Below.refl _ _⟩;simp_all [takesB])
 have hl:=hP.len;have hlt:=hP.lt;have hi:n-1<st.length:=oM;have c1:=hP.kind (n-1) hi;have c2:=hP.held (n-1) hi;have hmem:st[n-1]∈st:=List.getElem_mem _;obtain ⟨hk1,hk2⟩:=hk _ hmem
 have HT:Hi (takesB st g n s=(nextD st[n-1].1 st[n-1].2==s)):=by unfold Hi takesB;rw [if_neg h0,List.getD_eq_getElem?_getD,List.getElem?_eq_getElem hi];rfl
 have HR:Hi _:=hR;clear hk hR hP hmem;generalize st[n-1].1=kd at *;generalize st[n-1].2=hd at *;have hn0:0<(n:Int):=oM;obtain ⟨m,rfl⟩:∃ m,n=m+1:=⟨n-1,by omega⟩;simp only [Nat.add_sub_cancel] at c1 c2;clear h0;go_enter Tryz.func164,Tryz.ntmps164;go_wp2_with fail;refine (ym6 _ _ hk1 hk2 _ HR.o).mono ?_;rintro e w1 ⟨rfl,hb⟩;go_wp2;go_ret;exact ⟨za4 HT.o.symm,hb⟩
end
end Go.Proofs.YtihdgmiicfbbkaaGreatDoor
