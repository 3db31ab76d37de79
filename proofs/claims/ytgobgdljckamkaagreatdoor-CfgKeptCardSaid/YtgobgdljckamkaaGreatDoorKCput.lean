import Derived.Test.YtgobgdljckamkaaGreatDoorKCrfields
namespace Go.Proofs.YtgobgdljckamkaaGreatDoor
section
set_option linter.unusedVariables false
set_option linter.unusedSimpArgs false
open Go.RowKit
theorem zX6 {k:IntKind} {a b:Int} (h:a=b):Ending.returned (.int k a)=.returned (.int k b):=by rw [h]
def rSort (k:Nat):Int:=[1,1,2,2,2,2,2,2,2,3,4,4,4,4,4,4].getD k 0
def rNamed (k:Nat):Bool:=[true,true,true,true,true,false,false,false,false,false,false,false,true,true,false,false].getD k false
def rMost (k:Nat):Int:=[0,9223372036854775807,0,0,0,0,0,0,0,0,9223372036854775807,1,0,0,0,0].getD k 0
def rOp0 (k:Nat):Int:=[0,0,0,0,0,0,0,0,0,0,0,0,0,0,1,3].getD k 0
def rOp1 (k:Nat):Int:=[0,0,0,0,0,0,0,0,0,0,0,0,0,0,2,15].getD k 0
def rH0 (k:Nat):Int:=[0,0,4,4,0,4,0,4,4,0,0,0,0,4,4,4].getD k 0
def rH1 (k:Nat):Int:=[0,0,0,4,0,0,0,3,3,0,0,0,0,0,0,4].getD k 0
def rH2 (k:Nat):Int:=[0,0,0,0,0,0,0,3,0,0,0,0,0,0,0,0].getD k 0
def rWant (k:Nat):Int:=[0,0,1,2,0,1,0,2,2,0,0,0,0,1,1,2].getD k 0
structure RulesIs (w:World):Prop where
 lt:2<w.heap.size
 sort:∀ k:Nat,k<16→w.cell? ⟨2,k*9,none⟩=some (.int .u8 (rSort k))
 named:∀ k:Nat,k<16→w.cell? ⟨2,k*9+1,none⟩=some (.bool (rNamed k))
 most:∀ k:Nat,k<16→w.cell? ⟨2,k*9+2,none⟩=some (.int .i64 (rMost k))
 op0:∀ k:Nat,k<16→w.cell? ⟨2,k*9+3,none⟩=some (.int .i64 (rOp0 k))
 op1:∀ k:Nat,k<16→w.cell? ⟨2,k*9+3+1,none⟩=some (.int .i64 (rOp1 k))
 h0:∀ k:Nat,k<16→w.cell? ⟨2,k*9+5,none⟩=some (.int .u8 (rH0 k))
 h1:∀ k:Nat,k<16→w.cell? ⟨2,k*9+5+1,none⟩=some (.int .u8 (rH1 k))
 h2:∀ k:Nat,k<16→w.cell? ⟨2,k*9+5+2,none⟩=some (.int .u8 (rH2 k))
 want:∀ k:Nat,k<16→w.cell? ⟨2,k*9+8,none⟩=some (.int .u8 (rWant k))
def nextD (k h:Nat):Int:=if k=9 then 2 else if h=0 then rH0 k else if h=1 then rH1 k else if h=2 then rH2 k else 0
set_option maxHeartbeats 2000000 in
theorem zX7 (k h:Nat) (hk:k<16) (hh:k=9∨h≤3) (w:World) (hR:RulesIs w) :
  Calls Tryz.prog 125 #[.agg #[.int .i64 k,.int .i64 h]] w fun e w'=>e=.returned (.int .u8 (nextD k h))∧Below w.heap.size w w':=by
 have c0:=hR.h0 k hk
 have c1:=hR.h1 k hk
 have c2:=hR.h2 k hk
 have hlt:=hR.lt
 have hne:¬w.heap.size=2:=by omega
 have hne2:¬2=w.heap.size:=by omega
 clear hR
 by_cases h9:k=9
 ·subst h9
  clear hh
  go_enter Tryz.func125,Tryz.ntmps125
  go_wp2
  go_ret
  exact ⟨rfl,(Below.refl _ _).alloc (Nat.le_refl _) _⟩
 ·have h9':((k:Int)==9)=false:=by rw [beq_eq_false_iff_ne];omega
  have HN:Hid (nextD k h=if h=0 then rH0 k else if h=1 then rH1 k else if h=2 then rH2 k else 0):=by
   unfold Hid nextD;rw [if_neg h9]
  replace hh:h≤3:=by omega
  clear h9
  go_enter Tryz.func125,Tryz.ntmps125
  have h4:h=0∨h=1∨h=2∨h=3:=by omega
  rcases h4 with rfl | rfl | rfl | rfl
  all_goals
   go_wp2
   go_ret
   exact ⟨zX6 (by rw [HN.out];rfl),(((Below.refl _ _).alloc (Nat.le_refl _) _).alloc (by simp) _)⟩
def fitB (k:Nat) (name:List UInt8) (num op:Int):Bool :=
 (if rNamed k then nameB name else name.isEmpty)&&(decide (0≤num)&&decide (num≤rMost k)&&decide (rOp0 k≤op)&&decide (op≤rOp1 k))
set_option maxHeartbeats 2000000 in
theorem yf4 (d k num op a:Int) (s:ByteArray) (w:World) (hk:k<0∨15<k) :
  Calls Tryz.prog 90 #[.agg #[.int .i64 d,.int .i64 k,.string s,.int .i64 num,.int .i64 op,.int .i64 a]] w fun e w'=>e=.returned (.bool false)∧Below w.heap.size w w':=by
 go_enter Tryz.func90,Tryz.ntmps90
 rcases hk with hk | hk
 ·go_wp2
  go_ret
  exact ⟨rfl,(Below.refl _ _).alloc (Nat.le_refl _) _⟩
 ·have h0:0≤k:=by omega
  have h16:16≤k:=by omega
  go_wp2
  go_ret
  exact ⟨rfl,(Below.refl _ _).alloc (Nat.le_refl _) _⟩
set_option maxHeartbeats 2000000 in
theorem yf5 (d num op a:Int) (k:Nat) (s:ByteArray) (w:World) (hk:k<16) (hs:s.size≤maxLen) (hR:RulesIs w) :
  Calls Tryz.prog 90 #[.agg #[.int .i64 d,.int .i64 k,.string s,.int .i64 num,.int .i64 op,.int .i64 a]] w fun e w'=>e=.returned (.bool (fitB k s.toList num op))∧Below w.heap.size w w':=by
 have HS:Hid _:=hs
 clear hs
 have c0:=hR.h0 k hk
 have c1:=hR.h1 k hk
 have c2:=hR.h2 k hk
 have c3:=hR.sort k hk
 have c4:=hR.named k hk
 have c5:=hR.most k hk
 have c6:=hR.op0 k hk
 have c7:=hR.op1 k hk
 have c8:=hR.want k hk
 have hlt:=hR.lt
 have hne:¬w.heap.size=2:=by omega
 have hne2:¬2=w.heap.size:=by omega
 clear hR
 go_enter Tryz.func90,Tryz.ntmps90
 cases hn:rNamed k
 ·go_wp2
  all_goals (go_ret;refine ⟨za2 ?_,((Below.refl _ _).alloc (Nat.le_refl _) _).alloc (by simp) _⟩)
  all_goals (clear c0 c1 c2 c3 c4 c5 c6 c7 c8 hne hne2 hlt HS;first | (simp_all [fitB];done) | (simp_all [fitB];omega))
 ·go_wp2_with fail
  refine (zK2 _ _ HS.out).mono ?_
  rintro e w1 ⟨rfl,rfl⟩
  cases hm:nameB s.toList
  all_goals
   go_wp2
   all_goals (go_ret;refine ⟨za2 ?_,((Below.refl _ _).alloc (Nat.le_refl _) _).alloc (by simp) _⟩)
   all_goals (clear c0 c1 c2 c3 c4 c5 c6 c7 c8 hne hne2 hlt HS;first | (simp_all [fitB];done) | (simp_all [fitB];omega))
end
section
set_option linter.unusedVariables false
set_option linter.unusedSimpArgs false
open Go.RowKit
abbrev Hold:=Nat×Nat
structure PathIs (w:World) (b:Nat) (st:List Hold) (begun:Bool):Prop where
 lt:b<w.heap.size
 len:st.length≤25
 depth:w.cell? ⟨b,50,none⟩=some (.int .i64 st.length)
 begun:w.cell? ⟨b,51,none⟩=some (.bool begun)
 kind:∀ (i:Nat) (h:i<st.length),w.cell? ⟨b,i*2,none⟩=some (.int .i64 st[i].1)
 held:∀ (i:Nat) (h:i<st.length),w.cell? ⟨b,i*2+1,none⟩=some (.int .i64 st[i].2)
 room:∀ i,i<52→∃ v,w.cell? ⟨b,i,none⟩=some v
 warm:∀ i,w.frozen? ⟨b,i,none⟩=false
theorem RulesIs.below {w w1:World} (h:RulesIs w) (hb:Below w.heap.size w w1):RulesIs w1:=by
 have hc:∀ o,w1.cell? ⟨2,o,none⟩=w.cell? ⟨2,o,none⟩:=fun o=>hb.cell (p:=⟨2,o,none⟩) h.lt
 have hz:=hb.size
 have:=h.lt
 constructor
 case lt=>omega
 all_goals (intro k hk;rw [hc])
 ·exact h.sort k hk
 ·exact h.named k hk
 ·exact h.most k hk
 ·exact h.op0 k hk
 ·exact h.op1 k hk
 ·exact h.h0 k hk
 ·exact h.h1 k hk
 ·exact h.h2 k hk
 ·exact h.want k hk
theorem PathIs.below {w w1:World} {b:Nat} {st:List Hold} {g:Bool} (h:PathIs w b st g) (hb:Below w.heap.size w w1):PathIs w1 b st g:=by
 have hc:∀ o,w1.cell? ⟨b,o,none⟩=w.cell? ⟨b,o,none⟩:=fun o=>hb.cell (p:=⟨b,o,none⟩) h.lt
 have hf:∀ o,w1.frozen? ⟨b,o,none⟩=w.frozen? ⟨b,o,none⟩:=fun o=>hb.frozen (p:=⟨b,o,none⟩) h.lt
 have hz:=hb.size
 have:=h.lt
 exact ⟨by omega,h.len,by rw [hc];exact h.depth,by rw [hc];exact h.begun,fun i hi=>by rw [hc];exact h.kind i hi,fun i hi=>by rw [hc];exact h.held i hi,fun i hi=>by rw [hc];exact h.room i hi,fun i=>by rw [hf];exact h.warm i⟩
def wantsB (st:List Hold):Bool:=st.any fun h=>decide ((h.2:Int)<rWant h.1)
theorem zX8 (k:Nat):0≤rWant k∧rWant k≤2:=by
 by_cases h:k<16
 ·have:∀ j:Fin 16,0≤rWant j∧rWant j≤2:=by decide
  exact this ⟨k,h⟩
 ·have:rWant k=0:=by unfold rWant;rw [List.getD_eq_getElem?_getD,List.getElem?_eq_none (by simp;omega)];rfl
  omega
set_option maxHeartbeats 2000000 in
theorem zi8 (b n:Nat) (st:List Hold) (g:Bool) (w:World) (hn:n≤st.length) (hn2:n<25) (hk:∀ h∈st,h.1<16) (hR:RulesIs w) (hP:PathIs w b st g) :
  Calls Tryz.prog 92 #[.pointer (some ⟨b,0,none⟩),.int .i64 n] w fun e w'=>e=.returned (.bool (wantsB (st.drop n)))∧Below w.heap.size w w':=by
 have c0:=hP.depth
 have hl:=hP.len
 have hlt:=hP.lt
 have h1:(st.length:Int)≤25:=by omega
 have h2:(n:Int)≤st.length:=by omega
 have h25:¬25=n:=by omega
 have HK:Hid _:=hk
 have HR:Hid _:=hR
 have HP:Hid _:=hP
 clear hk hR hP
 go_enter Tryz.func92,Tryz.ntmps92
 go_wp2
 go_quiet (fail)
 go_wp2
 clear c0
 go_loopw [17] (fun t wr=>∃ k:Nat,n+k≤st.length∧t=.int .i64 k∧Hid (wantsB (st.drop n)=wantsB (st.drop (n+k)))∧Below w.heap.size w wr) (fun t _=>st.length-n-(intOf t).toNat)
 case atStart=>exact ⟨0,by omega,rfl,rfl,below_drewN (Below.refl _ _) _⟩
 case round =>
  obtain ⟨k,hk,rfl,hr,hb⟩:=hrel
  by_cases hlt2:n+k<st.length
  ·have hj:k<st.length-n:=by omega
   have hz:=hb.size
   have HP2:=HP.out.below hb
   have HR2:=HR.out.below hb
   have c1:=HP2.kind (n+k) hlt2
   have c2:=HP2.held (n+k) hlt2
   have hmem:st[n+k]∈st:=List.getElem_mem _
   have hk16:=HK.out _ hmem
   have c3:=HR2.want _ hk16
   have hbd:=zX8 st[n+k].1
   have hlt3:=HR2.lt
   have hstep:wantsB (st.drop (n+k))=(decide ((st[n+k].2:Int)<rWant st[n+k].1)||wantsB (st.drop (n+(k+1)))):=by
    rw [List.drop_eq_getElem_cons hlt2];rfl
   have HST:Hid _:=hstep
   clear hstep hmem HP2 HR2
   generalize st[n+k].1=kd at *
   generalize st[n+k].2=hd at *
   rw [Nat.add_mul] at c1 c2
   have hne:¬wr.heap.size=2:=by omega
   have hne2:¬2=wr.heap.size:=by omega
   have hneb:¬b=wr.heap.size:=by omega
   have HB:Hid (Below w.heap.size w wr):=hb
   clear hb
   by_cases ht:(hd:Int)<rWant kd
   ·have HF:Hid (wantsB (st.drop n)=true):=by
     unfold Hid;rw [hr.out,HST.out,decide_eq_true ht];rfl
    go_wp2
    go_quiet (fail)
    go_wp2
    go_ret
    exact ⟨za2 HF.out.symm,below_drewN (Below.alloc HB.out hz _) _⟩
   ·have HF:Hid (wantsB (st.drop n)=wantsB (st.drop (n+(k+1)))):=by
     unfold Hid;rw [hr.out,HST.out,decide_eq_false ht];rfl
    have ht2:rWant kd≤(hd:Int):=by omega
    clear ht
    go_wp2
    go_quiet (fail)
    go_wp2
    go_roundw
    case rel=>exact ⟨k+1,by omega,by go_num,HF,below_drewN (Below.alloc HB.out hz _) _⟩
    case measure=>simp [intOf];omega
  ·have ek:n+k=st.length:=by omega
   have hj:¬k<st.length-n:=by omega
   have HF:Hid (wantsB (st.drop n)=false):=by
    unfold Hid;rw [hr.out,ek,List.drop_length];rfl
   have hj2:st.length-n≤k:=by omega
   clear ek
   go_wp2
   go_ret
   exact ⟨za2 HF.out.symm,hb⟩
def takesB (st:List Hold) (g:Bool) (n:Nat) (s:Int):Bool :=
 if n=0 then (s==2||(s==1 && !g)) else nextD (st.getD (n-1) (0,0)).1 (st.getD (n-1) (0,0)).2==s
set_option maxHeartbeats 2000000 in
theorem zq9 (b n:Nat) (s:Int) (st:List Hold) (g:Bool) (w:World) (hn:n≤st.length) (hn2:n≤25) (hk:∀ h∈st,h.1<16∧(h.1=9∨h.2≤3)) (hR:RulesIs w) (hP:PathIs w b st g) :
  Calls Tryz.prog 114 #[.pointer (some ⟨b,0,none⟩),.int .i64 n,.int .u8 s] w fun e w'=>e=.returned (.bool (takesB st g n s))∧Below w.heap.size w w':=by
 by_cases h0:n=0
 ·subst h0
  have c1:=hP.begun
  have hlt:=hP.lt
  clear hk hR hP hn
  go_enter Tryz.func114,Tryz.ntmps114
  cases g
  all_goals
   go_wp2
   all_goals (go_ret;refine ⟨za2 ?_,Below.refl _ _⟩;simp_all [takesB])
 ·have hl:=hP.len
  have hlt:=hP.lt
  have hi:n-1<st.length:=by omega
  have c1:=hP.kind (n-1) hi
  have c2:=hP.held (n-1) hi
  have hmem:st[n-1]∈st:=List.getElem_mem _
  obtain ⟨hk1,hk2⟩:=hk _ hmem
  have HT:Hid (takesB st g n s=(nextD st[n-1].1 st[n-1].2==s)):=by
   unfold Hid takesB;rw [if_neg h0,List.getD_eq_getElem?_getD,List.getElem?_eq_getElem hi];rfl
  have HR:Hid _:=hR
  clear hk hR hP hmem
  generalize st[n-1].1=kd at *
  generalize st[n-1].2=hd at *
  have hn0:0<(n:Int):=by omega
  obtain ⟨m,rfl⟩:∃ m,n=m+1:=⟨n-1,by omega⟩
  simp only [Nat.add_sub_cancel] at c1 c2
  clear h0
  go_enter Tryz.func114,Tryz.ntmps114
  go_wp2_with fail
  refine (zX7 _ _ hk1 hk2 _ HR.out).mono ?_
  rintro e w1 ⟨rfl,hb⟩
  go_wp2
  go_ret
  exact ⟨za2 HT.out.symm,hb⟩
end
section
set_option linter.unusedVariables false
set_option linter.unusedSimpArgs false
open Go.RowKit
def putOk (st:List Hold) (g:Bool) (d:Int) (k:Nat):Bool :=
 decide (0≤d-1)&&decide (d-1≤st.length) && !wantsB (st.drop (d-1).toNat)&&takesB st g (d-1).toNat (rSort k)
set_option maxHeartbeats 2000000 in
theorem yj2 (b:Nat) (d num op a:Int) (k:Nat) (s:ByteArray) (st:List Hold) (g:Bool) (w:World) (hd1 : -9223372036854775808≤d) (hd2:d≤9223372036854775807) (hl24:st.length≤24) (hk16:k<16)
  (hk:∀ h∈st,h.1<16∧(h.1=9∨h.2≤3)) (hR:RulesIs w) (hP:PathIs w b st g) (hno:putOk st g d k=false) :
  Calls Tryz.prog 91 #[.pointer (some ⟨b,0,none⟩),.agg #[.int .i64 d,.int .i64 k,.string s,.int .i64 num,.int .i64 op,.int .i64 a]] w fun e w'=>e=.returned (.bool false)∧Below w.heap.size w w':=by
 have hlt:=hP.lt
 have c0:=hP.depth
 have hne:¬b=w.heap.size:=by omega
 have hl1:(st.length:Int)≤24:=by omega
 by_cases h0:d = -9223372036854775808
 ·subst h0
  clear hR hP hno hk
  go_enter Tryz.func91,Tryz.ntmps91
  have hw:wrap64 (-9223372036854775809)=9223372036854775807:=by unfold wrap64;omega
  have h9:(st.length:Int)<9223372036854775807:=by omega
  go_wp2
  go_ret
  exact ⟨rfl,(Below.refl _ _).alloc (Nat.le_refl _) _⟩
 have h0' : -9223372036854775808≤d-1:=by omega
 by_cases h1:d-1<0
 ·clear hR hP hno hk
  go_enter Tryz.func91,Tryz.ntmps91
  go_wp2_with fail
  go_ret
  exact ⟨rfl,(Below.refl _ _).alloc (Nat.le_refl _) _⟩
 have h1':0≤d-1:=by omega
 by_cases h2:(st.length:Int)<d-1
 ·clear hR hP hno hk
  go_enter Tryz.func91,Tryz.ntmps91
  go_wp2_with fail
  go_ret
  exact ⟨rfl,(Below.refl _ _).alloc (Nat.le_refl _) _⟩
 obtain ⟨n,hn⟩:=Int.eq_ofNat_of_zero_le h1'
 have hd':d=n+1:=by omega
 subst hd'
 have hn24:n≤st.length:=by omega
 have e1:((n:Int)+1-1)=n:=by omega
 have hB:Below w.heap.size w (w.alloc (.cells #[.int .i64 ((n:Int)+1),.int .i64 k,.string s,.int .i64 num,.int .i64 op,.int .i64 a] 31)):=(Below.refl _ _).alloc (Nat.le_refl _) _
 have c9w:=hR.sort k hk16
 have hne0:¬0=w.heap.size:=by have:=hR.lt;omega
 have hne0':¬w.heap.size=0:=by have:=hR.lt;omega
 have HR1:Hid _:=hR.below hB
 have HP1:Hid _:=hP.below hB
 have HB:Hid _:=hB
 have HK:Hid _:=hk
 have h2':(n:Int)≤st.length:=by omega
 unfold putOk at hno
 rw [e1,Int.toNat_natCast,decide_eq_true (by omega:(0:Int)≤n),decide_eq_true h2'] at hno
 have HNO:Hid _:=hno
 clear hno hB hR hP hk h1 h2 hn h0 h0' h1'
 have dn0:decide ((n:Int)<0)=false:=decide_eq_false (by omega)
 have dln:decide (st.length<n)=false:=decide_eq_false (by omega)
 go_enter Tryz.func91,Tryz.ntmps91
 go_wp2_with fail
 refine (zi8 b n st g _ hn24 (by omega) (fun h hm=>(HK.out h hm).1) HR1.out HP1.out).mono ?_
 rintro e w1 ⟨rfl,hb1⟩
 obtain ⟨hc1,hf1⟩:=bcell hb1
 have hcn:=fun o=>hc1 w.heap.size o (by simp)
 have hcb:=fun o=>hc1 b o (by simp;omega)
 have hfn:=fun o=>hf1 w.heap.size o (by simp)
 have hfb:=fun o=>hf1 b o (by simp;omega)
 clear hc1 hf1
 have HR2:Hid _:=HR1.out.below hb1
 have HP2:Hid _:=HP1.out.below hb1
 have hz1:w.heap.size+1≤w1.heap.size:=by have:=hb1.size;simp at this;omega
 have HB2:Hid (Below w.heap.size w w1):=HB.out.trans (hb1.mono (by simp))
 clear hb1
 have HNO':=HNO.out
 cases hw:wantsB (st.drop n)
 ·rw [hw] at HNO'
  replace HNO':takesB st g n (rSort k)=false:=by simpa using HNO'
  have c9:=HR2.out.sort k hk16
  clear hw HNO
  go_wp2_with fail
  refine (zq9 b n _ st g _ hn24 (by omega) HK.out HR2.out HP2.out).mono ?_
  rintro e w2 ⟨rfl,hb2⟩
  rw [HNO']
  clear HNO'
  go_wp2_with fail
  go_ret
  exact ⟨rfl,HB2.out.trans (hb2.mono (by omega))⟩
 ·clear hw HNO' HNO
  go_wp2_with fail
  go_ret
  exact ⟨rfl,HB2.out⟩
structure Beside (b:Nat) (w w':World):Prop where
 low:Below 0 w w'
 block:∀ q,q≠b→q<w.heap.size→w'.heap[q]?=w.heap[q]?
theorem Beside.of {b:Nat} {w w':World} (h:Below w.heap.size w w'):Beside b w w':=⟨h.mono (Nat.zero_le _),fun q _ hq=>h.block q hq⟩
theorem Beside.set {b:Nat} {w w1:World} (h:Beside b w w1) (o:Nat) (v:Value):Beside b w (w1.setCell ⟨b,o,none⟩ v) :=
 ⟨h.low.setCell (Nat.zero_le _) v,fun q hq hl=>(Below.heap_setCell w1 ⟨b,o,none⟩ v q hq).trans (h.block q hq hl)⟩
theorem Beside.drew {b:Nat} {w w1:World} (h:Beside b w w1):Beside b w w1.drew:=⟨h.low.drew,h.block⟩
theorem Beside.cell {b:Nat} {w w1:World} (h:Beside b w w1) {q o:Nat} (hq:q≠b) (hl:q<w.heap.size):w1.cell? ⟨q,o,none⟩=w.cell? ⟨q,o,none⟩:=World.cell?_of_block (w:=w) (h.block q hq hl)
theorem Beside.below {b B:Nat} {w0 w w1:World} (h0:Below B w0 w) (h:Beside b w w1) (hb:B≤b) (hz:B≤w.heap.size):Below B w0 w1 :=
 h0.trans ⟨h.low.os,h.low.tape,h.low.output,h.low.size,fun k hk=>h.block k (by omega) (by omega)⟩
theorem cs (w:World) (b o o':Nat) (v u:Value) (h:w.cell? ⟨b,o,none⟩=some u):(w.setCell ⟨b,o,none⟩ v).cell? ⟨b,o',none⟩=if o'=o then some v else w.cell? ⟨b,o',none⟩:=by
 by_cases e:o'=o
 ·subst e;rw [if_pos rfl];exact World.cell?_setCell_same _ _ _ h
 ·rw [if_neg e]
  refine World.cell?_setCell_other _ _ _ _ (fun hh=>e ?_)
  injection hh with _ h2 _;exact h2.symm
def pathPut (st:List Hold) (n k:Nat):List Hold :=
 if n=0 then [(k,0)] else st.take (n-1)++[((st.getD (n-1) (0,0)).1,(st.getD (n-1) (0,0)).2+1),(k,0)]
theorem cs4 {w:World} {b o1 o2 o3 o4:Nat} {u1 u2 u3 u4:Value} (v1 v2 v3 v4:Value) (r1:w.cell? ⟨b,o1,none⟩=some u1) (r2:w.cell? ⟨b,o2,none⟩=some u2) (r3:w.cell? ⟨b,o3,none⟩=some u3) (r4:w.cell? ⟨b,o4,none⟩=some u4) (o':Nat) :
  ((((w.setCell ⟨b,o1,none⟩ v1).setCell ⟨b,o2,none⟩ v2).setCell ⟨b,o3,none⟩ v3).setCell ⟨b,o4,none⟩ v4).cell? ⟨b,o',none⟩ =
   if o'=o4 then some v4 else if o'=o3 then some v3 else if o'=o2 then some v2 else if o'=o1 then some v1 else w.cell? ⟨b,o',none⟩:=by
 obtain ⟨x2,s2⟩:=cell?_setCell_some (p:=⟨b,o1,none⟩) (x:=v1) r2
 obtain ⟨x3,s3⟩:=cell?_setCell_some (p:=⟨b,o1,none⟩) (x:=v1) r3
 obtain ⟨x4,s4⟩:=cell?_setCell_some (p:=⟨b,o1,none⟩) (x:=v1) r4
 obtain ⟨y3,t3⟩:=cell?_setCell_some (p:=⟨b,o2,none⟩) (x:=v2) s3
 obtain ⟨y4,t4⟩:=cell?_setCell_some (p:=⟨b,o2,none⟩) (x:=v2) s4
 obtain ⟨z4,q4⟩:=cell?_setCell_some (p:=⟨b,o3,none⟩) (x:=v3) t4
 rw [cs _ b o4 o' v4 _ q4,cs _ b o3 o' v3 _ t3,cs _ b o2 o' v2 _ s2,cs _ b o1 o' v1 _ r1]
theorem zP2 (st:List Hold) (m k:Nat) (hm:m<st.length):(pathPut st (m+1) k).length=m+2:=by
 unfold pathPut;rw [if_neg (by omega),List.length_append,List.length_take];simp;omega
theorem pp_lo (st:List Hold) (m k i:Nat) (hm:m<st.length) (hi:i<m) (h:i<(pathPut st (m+1) k).length):(pathPut st (m+1) k)[i]=st[i]:=by
 unfold pathPut at *
 simp only [if_neg (by omega:¬m+1=0),Nat.add_sub_cancel]
 rw [List.getElem_append_left (by rw [List.length_take];omega),List.getElem_take]
theorem zP3 (st:List Hold) (m k:Nat) (hm:m<st.length) (h:m<(pathPut st (m+1) k).length):(pathPut st (m+1) k)[m]=(st[m].1,st[m].2+1):=by
 unfold pathPut at *
 simp only [if_neg (by omega:¬m+1=0),Nat.add_sub_cancel]
 rw [List.getElem_append_right (by rw [List.length_take];omega)]
 simp [List.length_take,Nat.min_eq_left (Nat.le_of_lt hm),List.getElem?_eq_getElem hm]
theorem zP4 (st:List Hold) (m k:Nat) (hm:m<st.length) (h:m+1<(pathPut st (m+1) k).length):(pathPut st (m+1) k)[m+1]=(k,0):=by
 unfold pathPut at *
 simp only [if_neg (by omega:¬m+1=0),Nat.add_sub_cancel]
 rw [List.getElem_append_right (by rw [List.length_take];omega)]
 simp [List.length_take,Nat.min_eq_left (Nat.le_of_lt hm)]
theorem zX9 {w:World} {b:Nat} {st:List Hold} {g:Bool} (hP:PathIs w b st g) (m k:Nat) (hm:m<st.length) (hl:st.length≤24) :
  PathIs ((((w.setCell ⟨b,m*2+1,none⟩ (.int .i64 ((st[m].2:Int)+1))).setCell ⟨b,(m+1)*2,none⟩ (.int .i64 k)).setCell ⟨b,(m+1)*2+1,none⟩ (.int .i64 0)).setCell ⟨b,50,none⟩ (.int .i64 ((m:Int)+1+1))) b (pathPut st (m+1) k) g:=by
 obtain ⟨v0,r0⟩:=hP.room (m*2+1) (by omega)
 obtain ⟨v1,r1⟩:=hP.room ((m+1)*2) (by omega)
 obtain ⟨v2,r2⟩:=hP.room ((m+1)*2+1) (by omega)
 obtain ⟨v3,r3⟩:=hP.room 50 (by omega)
 have key:=cs4 (.int .i64 ((st[m].2:Int)+1)) (.int .i64 k) (.int .i64 0) (.int .i64 ((m:Int)+1+1)) r0 r1 r2 r3
 have hlen:=zP2 st m k hm
 constructor
 ·simpa using hP.lt
 ·omega
 ·rw [key,if_pos rfl,hlen];congr 2
 ·rw [key,if_neg (by omega),if_neg (by omega),if_neg (by omega),if_neg (by omega)];exact hP.begun
 ·intro i hi
  rcases (show i<m∨i=m∨i=m+1 by omega) with h | rfl | rfl
  ·rw [key,if_neg (by omega),if_neg (by omega),if_neg (by omega),if_neg (by omega),pp_lo st m k i hm h hi];exact hP.kind i (by omega)
  ·rw [key,if_neg (by omega),if_neg (by omega),if_neg (by omega),if_neg (by omega),zP3 st i k hm hi];exact hP.kind i hm
  ·rw [key,if_neg (by omega),if_neg (by omega),if_pos rfl,zP4 st m k hm hi]
 ·intro i hi
  rcases (show i<m∨i=m∨i=m+1 by omega) with h | rfl | rfl
  ·rw [key,if_neg (by omega),if_neg (by omega),if_neg (by omega),if_neg (by omega),pp_lo st m k i hm h hi];exact hP.held i (by omega)
  ·rw [key,if_neg (by omega),if_neg (by omega),if_neg (by omega),if_pos rfl,zP3 st i k hm hi];congr 2
  ·rw [key,if_neg (by omega),if_pos rfl,zP4 st m k hm hi];rfl
 ·intro i hi
  rw [key]
  repeat' split
  all_goals first | exact ⟨_,rfl⟩ | exact hP.room i hi
 ·intro i
  simpa using hP.warm i
theorem zY0 {w:World} {b:Nat} {st:List Hold} {g g':Bool} (hP:PathIs w b st g) (k:Nat) :
  PathIs ((((w.setCell ⟨b,51,none⟩ (.bool g')).setCell ⟨b,0,none⟩ (.int .i64 k)).setCell ⟨b,1,none⟩ (.int .i64 0)).setCell ⟨b,50,none⟩ (.int .i64 1)) b (pathPut st 0 k) g':=by
 obtain ⟨v0,r0⟩:=hP.room 51 (by omega)
 obtain ⟨v1,r1⟩:=hP.room 0 (by omega)
 obtain ⟨v2,r2⟩:=hP.room 1 (by omega)
 obtain ⟨v3,r3⟩:=hP.room 50 (by omega)
 have key:=cs4 (.bool g') (.int .i64 k) (.int .i64 0) (.int .i64 1) r0 r1 r2 r3
 constructor
 ·simpa using hP.lt
 ·simp [pathPut]
 ·rw [key,if_pos rfl];rfl
 ·rw [key,if_neg (by omega),if_neg (by omega),if_neg (by omega),if_pos rfl]
 ·intro i hi
  have e:i=0:=by simp [pathPut] at hi;omega
  subst e
  rw [key,if_neg (by omega),if_neg (by omega),if_pos rfl];rfl
 ·intro i hi
  have e:i=0:=by simp [pathPut] at hi;omega
  subst e
  rw [key,if_neg (by omega),if_pos rfl];rfl
 ·intro i hi
  rw [key]
  repeat' split
  all_goals first | exact ⟨_,rfl⟩ | exact hP.room i hi
 ·intro i
  simpa using hP.warm i
set_option maxHeartbeats 2000000 in
theorem yf6 (b n:Nat) (num op a:Int) (k:Nat) (s:ByteArray) (st:List Hold) (g:Bool) (w:World) (hl24:st.length≤24) (hk16:k<16) (hn24:n≤st.length)
  (hk:∀ h∈st,h.1<16∧(h.1=9∨h.2≤3)) (hbd:∀ h∈st,h.2≤400) (hR:RulesIs w) (hP:PathIs w b st g) (hw:wantsB (st.drop n)=false) (ht:takesB st g n (rSort k)=true) (hn0:0<n) :
  Calls Tryz.prog 91 #[.pointer (some ⟨b,0,none⟩),.agg #[.int .i64 ((n:Int)+1),.int .i64 k,.string s,.int .i64 num,.int .i64 op,.int .i64 a]] w fun e w'=>e=.returned (.bool true)∧Beside b w w'∧PathIs w' b (pathPut st n k) g:=by
 have hlt:=hP.lt
 have c0:=hP.depth
 have hne:¬b=w.heap.size:=by omega
 have hl1:(st.length:Int)≤24:=by omega
 have hB:Below w.heap.size w (w.alloc (.cells #[.int .i64 ((n:Int)+1),.int .i64 k,.string s,.int .i64 num,.int .i64 op,.int .i64 a] 31)):=(Below.refl _ _).alloc (Nat.le_refl _) _
 have c9w:=hR.sort k hk16
 have hne0:¬0=w.heap.size:=by have:=hR.lt;omega
 have hne0':¬w.heap.size=0:=by have:=hR.lt;omega
 have HR1:Hid _:=hR.below hB
 have HP1:Hid _:=hP.below hB
 have HB:Hid _:=hB
 have HK:Hid _:=hk
 have HD:Hid _:=hbd
 have HW:Hid _:=hw
 have HT:Hid _:=ht
 have h2':(n:Int)≤st.length:=by omega
 clear hB hR hP hk hw ht hbd
 have dn0:decide ((n:Int)<0)=false:=decide_eq_false (by omega)
 have dln:decide (st.length<n)=false:=decide_eq_false (by omega)
 go_enter Tryz.func91,Tryz.ntmps91
 go_wp2_with fail
 refine (zi8 b n st g _ hn24 (by omega) (fun h hm=>(HK.out h hm).1) HR1.out HP1.out).mono ?_
 rintro e w1 ⟨rfl,hb1⟩
 rw [HW.out]
 obtain ⟨hc1,hf1⟩:=bcell hb1
 have hcn:=fun o=>hc1 w.heap.size o (by simp)
 have hcb:=fun o=>hc1 b o (by simp;omega)
 have hfn:=fun o=>hf1 w.heap.size o (by simp)
 have hfb:=fun o=>hf1 b o (by simp;omega)
 clear hc1 hf1
 have HR2:Hid _:=HR1.out.below hb1
 have HP2:Hid _:=HP1.out.below hb1
 have hz1:w.heap.size+1≤w1.heap.size:=by have:=hb1.size;simp at this;omega
 have HB2:Hid (Below w.heap.size w w1):=HB.out.trans (hb1.mono (by simp))
 have c9:=HR2.out.sort k hk16
 clear hb1
 go_wp2_with fail
 refine (zq9 b n _ st g _ hn24 (by omega) HK.out HR2.out HP2.out).mono ?_
 rintro e w2 ⟨rfl,hb2⟩
 rw [HT.out]
 have HB3:Hid (Below w.heap.size w w2):=HB2.out.trans (hb2.mono (by omega))
 have HP3:Hid _:=HP2.out.below hb2
 have HR3:Hid _:=HR2.out.below hb2
 have d0:w2.cell? ⟨w.heap.size,0,none⟩=some (.int .i64 ((n:Int)+1)):=by rw [(bcell hb2).1 _ _ (by omega),hcn _];simp [go_sem]
 have d1:w2.cell? ⟨w.heap.size,1,none⟩=some (.int .i64 k):=by rw [(bcell hb2).1 _ _ (by omega),hcn _];simp [go_sem]
 have hz2:w1.heap.size≤w2.heap.size:=hb2.size
 clear hb2 hcn hcb hfn hfb c9
 have hi:n-1<st.length:=by omega
 have e1:=HP3.out.held (n-1) hi
 have hm1:st[n-1].2≤400:=HD.out _ (List.getElem_mem _)
 have hfz:=HP3.out.warm
 obtain ⟨m,rfl⟩:∃ m,n=m+1:=⟨n-1,by omega⟩
 simp only [Nat.add_sub_cancel] at e1 hm1
 have HF:Hid _:=zX9 HP3.out m k (by omega) hl24
 generalize st[m].2=hd at *
 go_wp2_with fail
 go_region
 obtain ⟨v0,g0⟩:=HP3.out.room ((m+1)*2) (by omega)
 obtain ⟨v1,g1⟩:=HP3.out.room ((m+1)*2+1) (by omega)
 obtain ⟨v2,g2⟩:=HP3.out.room 50 (by omega)
 have nbw:¬b=w.heap.size:=hne
 have nwb:¬w.heap.size=b:=by omega
 have o1:¬m*2+1=(m+1)*2:=by omega
 go_wp2_with fail
 go_region
 go_wp2_with fail
 go_ret
 refine ⟨rfl,?_,?_⟩
 ·refine Beside.drew (Beside.drew (Beside.set (Beside.set (Beside.set (Beside.set (Beside.of HB3.out) _ _) _ _) _ _) _ _))
 ·exact HF.out.below ((Below.refl _ _).drew.drew)
set_option maxHeartbeats 2000000 in
theorem yf7 (b:Nat) (num op a:Int) (k:Nat) (s:ByteArray) (st:List Hold) (g:Bool) (w:World) (hl24:st.length≤24) (hk16:k<16)
  (hk:∀ h∈st,h.1<16∧(h.1=9∨h.2≤3)) (hR:RulesIs w) (hP:PathIs w b st g) (hw:wantsB st=false) (ht:takesB st g 0 (rSort k)=true) :
  Calls Tryz.prog 91 #[.pointer (some ⟨b,0,none⟩),.agg #[.int .i64 1,.int .i64 k,.string s,.int .i64 num,.int .i64 op,.int .i64 a]] w fun e w'=>e=.returned (.bool true)∧Beside b w w'∧PathIs w' b (pathPut st 0 k) (g||rSort k==2):=by
 have hlt:=hP.lt
 have c0:=hP.depth
 have hne:¬b=w.heap.size:=by omega
 have hl1:(st.length:Int)≤24:=by omega
 have hB:Below w.heap.size w (w.alloc (.cells #[.int .i64 1,.int .i64 k,.string s,.int .i64 num,.int .i64 op,.int .i64 a] 31)):=(Below.refl _ _).alloc (Nat.le_refl _) _
 have c9w:=hR.sort k hk16
 have hne0:¬0=w.heap.size:=by have:=hR.lt;omega
 have hne0':¬w.heap.size=0:=by have:=hR.lt;omega
 have HR1:Hid _:=hR.below hB
 have HP1:Hid _:=hP.below hB
 have HB:Hid _:=hB
 have HK:Hid _:=hk
 have HW:Hid _:=hw
 have HT:Hid _:=ht
 have h2':(0:Int)≤st.length:=by omega
 clear hB hR hP hk hw ht
 go_enter Tryz.func91,Tryz.ntmps91
 go_wp2_with fail
 refine (zi8 b 0 st g _ (by omega) (by omega) (fun h hm=>(HK.out h hm).1) HR1.out HP1.out).mono ?_
 rintro e w1 ⟨rfl,hb1⟩
 rw [List.drop_zero,HW.out]
 obtain ⟨hc1,hf1⟩:=bcell hb1
 have hcn:=fun o=>hc1 w.heap.size o (by simp)
 have hcb:=fun o=>hc1 b o (by simp;omega)
 have hfn:=fun o=>hf1 w.heap.size o (by simp)
 have hfb:=fun o=>hf1 b o (by simp;omega)
 clear hc1 hf1
 have HR2:Hid _:=HR1.out.below hb1
 have HP2:Hid _:=HP1.out.below hb1
 have hz1:w.heap.size+1≤w1.heap.size:=by have:=hb1.size;simp at this;omega
 have HB2:Hid (Below w.heap.size w w1):=HB.out.trans (hb1.mono (by simp))
 have c9:=HR2.out.sort k hk16
 clear hb1
 go_wp2_with fail
 refine (zq9 b 0 _ st g _ (by omega) (by omega) HK.out HR2.out HP2.out).mono ?_
 rintro e w2 ⟨rfl,hb2⟩
 rw [HT.out]
 have HB3:Hid (Below w.heap.size w w2):=HB2.out.trans (hb2.mono (by omega))
 have HP3:Hid _:=HP2.out.below hb2
 have HR3:Hid _:=HR2.out.below hb2
 have d0:w2.cell? ⟨w.heap.size,0,none⟩=some (.int .i64 1):=by rw [(bcell hb2).1 _ _ (by omega),hcn _];simp [go_sem]
 have d1:w2.cell? ⟨w.heap.size,1,none⟩=some (.int .i64 k):=by rw [(bcell hb2).1 _ _ (by omega),hcn _];simp [go_sem]
 have hz2:w1.heap.size≤w2.heap.size:=hb2.size
 clear hb2 hcn hcb hfn hfb c9
 have hfz:=HP3.out.warm
 have e1:=HP3.out.begun
 have e2:=HR3.out.sort k hk16
 obtain ⟨v0,g0⟩:=HP3.out.room 0 (by omega)
 obtain ⟨v1,g1⟩:=HP3.out.room 1 (by omega)
 obtain ⟨v2,g2⟩:=HP3.out.room 50 (by omega)
 have nwb:¬w.heap.size=b:=by omega
 have HPT:Hid (∀ g',PathIs ((((w2.setCell ⟨b,51,none⟩ (.bool g')).setCell ⟨b,0,none⟩ (.int .i64 k)).setCell ⟨b,1,none⟩ (.int .i64 0)).setCell ⟨b,50,none⟩ (.int .i64 1)) b (pathPut st 0 k) g'):=fun g'=>zY0 HP3.out k
 have dl0:decide ((st.length:Int)<0)=false:=decide_eq_false (by omega)
 cases g
 ·cases hs:(rSort k==2)
  all_goals
   go_wp2_with fail
   go_region
   go_wp2_with fail
   go_ret
   refine ⟨rfl,Beside.drew (Beside.set (Beside.set (Beside.set (Beside.set (Beside.of HB3.out) _ _) _ _) _ _) _ _),?_⟩
   rw [Bool.false_or,hs]
   exact (HPT.out _).below ((Below.refl _ _).drew)
 ·go_wp2_with fail
  go_region
  go_wp2_with fail
  go_ret
  refine ⟨rfl,Beside.drew (Beside.set (Beside.set (Beside.set (Beside.set (Beside.of HB3.out) _ _) _ _) _ _) _ _),?_⟩
  exact (HPT.out _).below ((Below.refl _ _).drew)
end
end Go.Proofs.YtgobgdljckamkaaGreatDoor
