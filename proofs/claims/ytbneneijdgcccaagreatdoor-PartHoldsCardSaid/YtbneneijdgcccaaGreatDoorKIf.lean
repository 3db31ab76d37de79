import Derived.Stop.Asserts
import Derived.RowKitTokens
import Derived.Test.YtbneneijdgcccaaGreatDoorKIb
set_option maxHeartbeats 8000000
set_option linter.all false
set_option maxRecDepth 100000
namespace Go.Proofs.YtbneneijdgcccaaGreatDoor
section
open Go.RowKit Go.Maps
theorem lix (A:Value) (hA:A=.agg #[.int .i64 190,.func (.func 125) #[] #[],.int .i64 191,.func (.func 127) #[] #[],.int .i64 192,.func (.func 128) #[] #[],.int .i64 193,.func (.func 129) #[] #[],.int .i64 194,.func (.func 130) #[] #[],.int .i64 195,.func (.func 131) #[] #[],.int .i64 196,.func (.func 132) #[] #[],.int .i64 197,.func (.func 134) #[] #[],.int .i64 198,.func (.func 135) #[] #[]]) (w:World):Sem.run Tryz.prog (Instr.index 204 A (.int .i64 0)) w=.ok (.agg #[.int .i64 190,.func (.func 125) #[] #[]]) w/\Sem.run Tryz.prog (Instr.index 204 A (.int .i64 1)) w=.ok (.agg #[.int .i64 191,.func (.func 127) #[] #[]]) w/\Sem.run Tryz.prog (Instr.index 204 A (.int .i64 2)) w=.ok (.agg #[.int .i64 192,.func (.func 128) #[] #[]]) w/\Sem.run Tryz.prog (Instr.index 204 A (.int .i64 3)) w=.ok (.agg #[.int .i64 193,.func (.func 129) #[] #[]]) w/\Sem.run Tryz.prog (Instr.index 204 A (.int .i64 4)) w=.ok (.agg #[.int .i64 194,.func (.func 130) #[] #[]]) w/\Sem.run Tryz.prog (Instr.index 204 A (.int .i64 5)) w=.ok (.agg #[.int .i64 195,.func (.func 131) #[] #[]]) w/\Sem.run Tryz.prog (Instr.index 204 A (.int .i64 6)) w=.ok (.agg #[.int .i64 196,.func (.func 132) #[] #[]]) w/\Sem.run Tryz.prog (Instr.index 204 A (.int .i64 7)) w=.ok (.agg #[.int .i64 197,.func (.func 134) #[] #[]]) w/\Sem.run Tryz.prog (Instr.index 204 A (.int .i64 8)) w=.ok (.agg #[.int .i64 198,.func (.func 135) #[] #[]]) w:=by
 subst hA
 refine ⟨?_,?_,?_,?_,?_,?_,?_,?_,?_⟩<;>kernel_rfl
theorem infL1:(Tryz.prog.info? 203).map (·.size)=some 2:=by kernel_rfl
theorem zk4 (w:World) (cs:Array Value):∃ (X:World) (g:Nat),((w.alloc (Obj.cells #[.int .i64 0,.nilFunc] 203)).setRow w.heap.size cs=X/\w.heap.size=g)/\Hi (Ok w X)/\Hi (X.heap[g]?=some (.cells cs 203 (0,0))/\g<X.heap.size) :=
 ⟨_,_,⟨rfl,rfl⟩,zd0 ((Ok.refl w).alloc _) (Nat.le_refl _) _,setRow_heap _ _ _ _ _ _ (za3 _ _),za2 (setRow_heap _ _ _ _ _ _ (za3 _ _))⟩
def limB (c:Nat->Int) (ts:List Int):Nat->Bool
 | 0=>decide (0<=c 0)&&decide (c 0<=3)
 | 1=>decide (0<=c 1)&&decide (c 1<=3)
 | 2=>decide (1<=c 2)&&decide (c 2<=6)
 | 3=>decide (0<=c 3)&&decide (c 3<=6)
 | 4=>decide (0<=c 4)&&decide (c 4<=3)
 | 5=>decide (0<=c 5)&&decide (c 5<=3)
 | 6=>decide (ts.length<=6)&&risesB ts
 | 7=>decide (0<=c 7)&&decide (c 7<=5000)
 | 8=>decide (0<=c 8)&&decide (c 8<=4)
 | _=>true
def refuse (c:Nat->Int) (ts:List Int):Int:=match (List.range 9).find? (fun k => !limB c ts k) with
 | some k=>190+(k:Int)
 | none=>0
theorem zg0 {c:Nat->Int} {ts:List Int} {k:Nat} (hk:k<9) (hl:∀ j,j<k->limB c ts j=true) (h:limB c ts k=false):refuse c ts=190+(k:Int):=by
 have e:(List.range 9).find? (fun k => !limB c ts k)=some k:=by
  rw [List.find?_range_eq_some]
  exact ⟨by rw [h];rfl,List.mem_range.2 hk,fun j hj=>by rw [hl j hj];rfl⟩
 unfold refuse
 rw [e]
theorem zg1 {c:Nat->Int} {ts:List Int} {k:Nat} (hl:∀ j,j<k->limB c ts j=true) (h:limB c ts k=true):∀ j,j<k+1->limB c ts j=true:=fun j hj=>by
 by_cases e:j=k
 ·rw [e];exact h
 exact hl j (by omega)
theorem yd8 {c:Nat->Int} {ts:List Int} (hl:∀ j,j<9->limB c ts j=true):refuse c ts=0:=by
 have e:(List.range 9).find? (fun k => !limB c ts k)=none:=by
  rw [List.find?_eq_none]
  intro j hj
  rw [hl j (List.mem_range.1 hj)]
  decide
 unfold refuse
 rw [e]
theorem zo0 {c:Nat->Int} {ts:List Int} (h:refuse c ts=0) {k:Nat} (hk:k<9):limB c ts k=true:=by
 unfold refuse at h
 cases hf:(List.range 9).find? (fun k => !limB c ts k) with
 | none =>
  have h1:=List.find?_eq_none.1 hf k (List.mem_range.2 hk)
  cases hb:limB c ts k with
  | true=>rfl
  | false=>rw [hb] at h1;exact absurd rfl h1
 | some k=>rw [hf] at h;have h1:190+(k:Int)=0:=h;omega
theorem zK4 (c:Nat->Int) (ts:List Int) (tz:Option Addr) (tc:Nat) (w:World) (h:SL w 1 (.slice tz ts.length tc) ts.length (ilL ts)):Calls Tryz.prog 57 #[.agg #[.int .i64 (c 0),.int .i64 (c 1),.int .i64 (c 2),.int .i64 (c 3),.int .i64 (c 4),.int .i64 (c 5),.slice tz ts.length tc,.int .i64 (c 7),.int .i64 (c 8)]] w fun e w'=>e=.returned (.int .i64 (refuse c ts))/\Ok w w':=by
 have HL0:Hi (∀ Y,Ok w Y->Calls Tryz.prog 125 #[.agg #[.int .i64 (c 0),.int .i64 (c 1),.int .i64 (c 2),.int .i64 (c 3),.int .i64 (c 4),.int .i64 (c 5),.slice tz ts.length tc,.int .i64 (c 7),.int .i64 (c 8)]] Y fun e w'=>e=.returned (.bool (limB c ts 0))/\Ok Y w'):=fun Y hY=>yc9 c tz ts.length tc Y
 have HL1:Hi (∀ Y,Ok w Y->Calls Tryz.prog 127 #[.agg #[.int .i64 (c 0),.int .i64 (c 1),.int .i64 (c 2),.int .i64 (c 3),.int .i64 (c 4),.int .i64 (c 5),.slice tz ts.length tc,.int .i64 (c 7),.int .i64 (c 8)]] Y fun e w'=>e=.returned (.bool (limB c ts 1))/\Ok Y w'):=fun Y hY=>yd0 c tz ts.length tc Y
 have HL2:Hi (∀ Y,Ok w Y->Calls Tryz.prog 128 #[.agg #[.int .i64 (c 0),.int .i64 (c 1),.int .i64 (c 2),.int .i64 (c 3),.int .i64 (c 4),.int .i64 (c 5),.slice tz ts.length tc,.int .i64 (c 7),.int .i64 (c 8)]] Y fun e w'=>e=.returned (.bool (limB c ts 2))/\Ok Y w'):=fun Y hY=>yd1 c tz ts.length tc Y
 have HL3:Hi (∀ Y,Ok w Y->Calls Tryz.prog 129 #[.agg #[.int .i64 (c 0),.int .i64 (c 1),.int .i64 (c 2),.int .i64 (c 3),.int .i64 (c 4),.int .i64 (c 5),.slice tz ts.length tc,.int .i64 (c 7),.int .i64 (c 8)]] Y fun e w'=>e=.returned (.bool (limB c ts 3))/\Ok Y w'):=fun Y hY=>yd2 c tz ts.length tc Y
 have HL4:Hi (∀ Y,Ok w Y->Calls Tryz.prog 130 #[.agg #[.int .i64 (c 0),.int .i64 (c 1),.int .i64 (c 2),.int .i64 (c 3),.int .i64 (c 4),.int .i64 (c 5),.slice tz ts.length tc,.int .i64 (c 7),.int .i64 (c 8)]] Y fun e w'=>e=.returned (.bool (limB c ts 4))/\Ok Y w'):=fun Y hY=>yd3 c tz ts.length tc Y
 have HL5:Hi (∀ Y,Ok w Y->Calls Tryz.prog 131 #[.agg #[.int .i64 (c 0),.int .i64 (c 1),.int .i64 (c 2),.int .i64 (c 3),.int .i64 (c 4),.int .i64 (c 5),.slice tz ts.length tc,.int .i64 (c 7),.int .i64 (c 8)]] Y fun e w'=>e=.returned (.bool (limB c ts 5))/\Ok Y w'):=fun Y hY=>yd4 c tz ts.length tc Y
 have HL6:Hi (∀ Y,Ok w Y->Calls Tryz.prog 132 #[.agg #[.int .i64 (c 0),.int .i64 (c 1),.int .i64 (c 2),.int .i64 (c 3),.int .i64 (c 4),.int .i64 (c 5),.slice tz ts.length tc,.int .i64 (c 7),.int .i64 (c 8)]] Y fun e w'=>e=.returned (.bool (limB c ts 6))/\Ok Y w'):=fun Y hY=>yd7 c ts tz tc Y (h.below hY)
 have HL7:Hi (∀ Y,Ok w Y->Calls Tryz.prog 134 #[.agg #[.int .i64 (c 0),.int .i64 (c 1),.int .i64 (c 2),.int .i64 (c 3),.int .i64 (c 4),.int .i64 (c 5),.slice tz ts.length tc,.int .i64 (c 7),.int .i64 (c 8)]] Y fun e w'=>e=.returned (.bool (limB c ts 7))/\Ok Y w'):=fun Y hY=>yd5 c tz ts.length tc Y
 have HL8:Hi (∀ Y,Ok w Y->Calls Tryz.prog 135 #[.agg #[.int .i64 (c 0),.int .i64 (c 1),.int .i64 (c 2),.int .i64 (c 3),.int .i64 (c 4),.int .i64 (c 5),.slice tz ts.length tc,.int .i64 (c 7),.int .i64 (c 8)]] Y fun e w'=>e=.returned (.bool (limB c ts 8))/\Ok Y w'):=fun Y hY=>yd6 c tz ts.length tc Y
 clear h
 obtain ⟨N,hN⟩:=qq (ts.length)
 rw [<-hN] at HL0 HL1 HL2 HL3 HL4 HL5 HL6 HL7 HL8
 rw [<-hN]
 clear hN
 go_enter Tryz.func57,Tryz.ntmps57
 go_wp2_with fail
 refine (zU9 _).mono ?_
 rintro e W0 ⟨rfl,hk0⟩
 have HK:Hi (Ok w W0):=((Ok.refl w).alloc _).step hk0
 obtain ⟨g1,hg1⟩:=qq (w.heap.size)
 have HC0:Hi (W0.heap[g1]?=some (.cells #[.int .i64 (c 0),.int .i64 (c 1),.int .i64 (c 2),.int .i64 (c 3),.int .i64 (c 4),.int .i64 (c 5),.slice tz N tc,.int .i64 (c 7),.int .i64 (c 8)] 24 (0,0))):=Ok.row' hk0 (by rw [hg1];exact za3 _ _)
 rw [<-hg1]
 clear hg1 hk0
 go_wp2_with fail
 go_loopw [6] (fun t6 wr=>∃ k:Nat,t6=.int .i64 (k:Nat)/\k<=9/\Hi (Ok W0 wr/\∀ j,j<k->limB c ts j=true)) (fun t6 _=>((9:Int)-intOf t6).toNat)
 case atStart=>exact ⟨0,rfl,by omega,Ok.refl _,fun j hj=>absurd hj (Nat.not_lt_zero _)⟩
 obtain ⟨k,rfl,hk,HR⟩:=hrel
 have HC:Hi _:=Ok.row' HR.o.1 HC0.o
 have HKW:Hi (Ok w wr):=HK.o.step HR.o.1
 have HE:Hi (k<=9):=hk
 match k,hk with
 | 0,_ =>
  have ix:=(lix _ rfl wr).1
  go_wp2_with (first | (refine za8 rfl 203 _ _ rfl wr.heap.size 203 #[.int .i64 0,.nilFunc] #[.int .i64 190,.func (.func 125) #[] #[]] (by rfl) (by rfl) (za3 _ _) infL1 rfl (by simp [Value.oneCell']) ?_;obtain ⟨X,gL,hX,HKX,HKL⟩:=zk4 wr #[.int .i64 190,.func (.func 125) #[] #[]];rw [hX.1,hX.2];clear hX;obtain ⟨q0,q1,qf0,qf1⟩:=zd1 HKL.o.1;have lgl:=HKL.o.2;obtain ⟨p0,p1,p2,p3,p4,p5,p6,p7,p8,lgp⟩:=row9 (Ok.row' HKX.o HC.o)) | fail)
  refine (HL0.o _ (HKW.o.step HKX.o)).mono ?_
  rintro e w2 ⟨rfl,hk2⟩
  have HK2:Hi (Ok wr w2):=HKX.o.step hk2
  have r1:=hk2.cell (p:=⟨gL,0,none⟩) lgl q0
  have l2:=Nat.lt_of_lt_of_le lgl hk2.le
  clear hk2 p0 p1 p2 p3 p4 p5 p6 p7 p8 lgp ix q0 q1 qf0 qf1
  cases hb:limB c ts 0 with
  | true =>
   have HB:Hi (limB c ts 0=true):=hb
   clear hb
   go_wp2_with fail
   exact ⟨⟨1,rfl,by omega,HR.o.1.step HK2.o,zg1 HR.o.2 HB.o⟩,by decide⟩
  | false =>
   have HB:Hi (refuse c ts=190):=zg0 (by decide) HR.o.2 hb
   clear hb
   go_wp2_with fail
   go_ret
   exact ⟨by rw [HB.o];rfl,HKW.o.step HK2.o⟩
 | 1,_ =>
  have ix:=(lix _ rfl wr).2.1
  go_wp2_with (first | (refine za8 rfl 203 _ _ rfl wr.heap.size 203 #[.int .i64 0,.nilFunc] #[.int .i64 191,.func (.func 127) #[] #[]] (by rfl) (by rfl) (za3 _ _) infL1 rfl (by simp [Value.oneCell']) ?_;obtain ⟨X,gL,hX,HKX,HKL⟩:=zk4 wr #[.int .i64 191,.func (.func 127) #[] #[]];rw [hX.1,hX.2];clear hX;obtain ⟨q0,q1,qf0,qf1⟩:=zd1 HKL.o.1;have lgl:=HKL.o.2;obtain ⟨p0,p1,p2,p3,p4,p5,p6,p7,p8,lgp⟩:=row9 (Ok.row' HKX.o HC.o)) | fail)
  refine (HL1.o _ (HKW.o.step HKX.o)).mono ?_
  rintro e w2 ⟨rfl,hk2⟩
  have HK2:Hi (Ok wr w2):=HKX.o.step hk2
  have r1:=hk2.cell (p:=⟨gL,0,none⟩) lgl q0
  have l2:=Nat.lt_of_lt_of_le lgl hk2.le
  clear hk2 p0 p1 p2 p3 p4 p5 p6 p7 p8 lgp ix q0 q1 qf0 qf1
  cases hb:limB c ts 1 with
  | true =>
   have HB:Hi (limB c ts 1=true):=hb
   clear hb
   go_wp2_with fail
   exact ⟨⟨2,rfl,by omega,HR.o.1.step HK2.o,zg1 HR.o.2 HB.o⟩,by decide⟩
  | false =>
   have HB:Hi (refuse c ts=191):=zg0 (by decide) HR.o.2 hb
   clear hb
   go_wp2_with fail
   go_ret
   exact ⟨by rw [HB.o];rfl,HKW.o.step HK2.o⟩
 | 2,_ =>
  have ix:=(lix _ rfl wr).2.2.1
  go_wp2_with (first | (refine za8 rfl 203 _ _ rfl wr.heap.size 203 #[.int .i64 0,.nilFunc] #[.int .i64 192,.func (.func 128) #[] #[]] (by rfl) (by rfl) (za3 _ _) infL1 rfl (by simp [Value.oneCell']) ?_;obtain ⟨X,gL,hX,HKX,HKL⟩:=zk4 wr #[.int .i64 192,.func (.func 128) #[] #[]];rw [hX.1,hX.2];clear hX;obtain ⟨q0,q1,qf0,qf1⟩:=zd1 HKL.o.1;have lgl:=HKL.o.2;obtain ⟨p0,p1,p2,p3,p4,p5,p6,p7,p8,lgp⟩:=row9 (Ok.row' HKX.o HC.o)) | fail)
  refine (HL2.o _ (HKW.o.step HKX.o)).mono ?_
  rintro e w2 ⟨rfl,hk2⟩
  have HK2:Hi (Ok wr w2):=HKX.o.step hk2
  have r1:=hk2.cell (p:=⟨gL,0,none⟩) lgl q0
  have l2:=Nat.lt_of_lt_of_le lgl hk2.le
  clear hk2 p0 p1 p2 p3 p4 p5 p6 p7 p8 lgp ix q0 q1 qf0 qf1
  cases hb:limB c ts 2 with
  | true =>
   have HB:Hi (limB c ts 2=true):=hb
   clear hb
   go_wp2_with fail
   exact ⟨⟨3,rfl,by omega,HR.o.1.step HK2.o,zg1 HR.o.2 HB.o⟩,by decide⟩
  | false =>
   have HB:Hi (refuse c ts=192):=zg0 (by decide) HR.o.2 hb
   clear hb
   go_wp2_with fail
   go_ret
   exact ⟨by rw [HB.o];rfl,HKW.o.step HK2.o⟩
 | 3,_ =>
  have ix:=(lix _ rfl wr).2.2.2.1
  go_wp2_with (first | (refine za8 rfl 203 _ _ rfl wr.heap.size 203 #[.int .i64 0,.nilFunc] #[.int .i64 193,.func (.func 129) #[] #[]] (by rfl) (by rfl) (za3 _ _) infL1 rfl (by simp [Value.oneCell']) ?_;obtain ⟨X,gL,hX,HKX,HKL⟩:=zk4 wr #[.int .i64 193,.func (.func 129) #[] #[]];rw [hX.1,hX.2];clear hX;obtain ⟨q0,q1,qf0,qf1⟩:=zd1 HKL.o.1;have lgl:=HKL.o.2;obtain ⟨p0,p1,p2,p3,p4,p5,p6,p7,p8,lgp⟩:=row9 (Ok.row' HKX.o HC.o)) | fail)
  refine (HL3.o _ (HKW.o.step HKX.o)).mono ?_
  rintro e w2 ⟨rfl,hk2⟩
  have HK2:Hi (Ok wr w2):=HKX.o.step hk2
  have r1:=hk2.cell (p:=⟨gL,0,none⟩) lgl q0
  have l2:=Nat.lt_of_lt_of_le lgl hk2.le
  clear hk2 p0 p1 p2 p3 p4 p5 p6 p7 p8 lgp ix q0 q1 qf0 qf1
  cases hb:limB c ts 3 with
  | true =>
   have HB:Hi (limB c ts 3=true):=hb
   clear hb
   go_wp2_with fail
   exact ⟨⟨4,rfl,by omega,HR.o.1.step HK2.o,zg1 HR.o.2 HB.o⟩,by decide⟩
  | false =>
   have HB:Hi (refuse c ts=193):=zg0 (by decide) HR.o.2 hb
   clear hb
   go_wp2_with fail
   go_ret
   exact ⟨by rw [HB.o];rfl,HKW.o.step HK2.o⟩
 | 4,_ =>
  have ix:=(lix _ rfl wr).2.2.2.2.1
  go_wp2_with (first | (refine za8 rfl 203 _ _ rfl wr.heap.size 203 #[.int .i64 0,.nilFunc] #[.int .i64 194,.func (.func 130) #[] #[]] (by rfl) (by rfl) (za3 _ _) infL1 rfl (by simp [Value.oneCell']) ?_;obtain ⟨X,gL,hX,HKX,HKL⟩:=zk4 wr #[.int .i64 194,.func (.func 130) #[] #[]];rw [hX.1,hX.2];clear hX;obtain ⟨q0,q1,qf0,qf1⟩:=zd1 HKL.o.1;have lgl:=HKL.o.2;obtain ⟨p0,p1,p2,p3,p4,p5,p6,p7,p8,lgp⟩:=row9 (Ok.row' HKX.o HC.o)) | fail)
  refine (HL4.o _ (HKW.o.step HKX.o)).mono ?_
  rintro e w2 ⟨rfl,hk2⟩
  have HK2:Hi (Ok wr w2):=HKX.o.step hk2
  have r1:=hk2.cell (p:=⟨gL,0,none⟩) lgl q0
  have l2:=Nat.lt_of_lt_of_le lgl hk2.le
  clear hk2 p0 p1 p2 p3 p4 p5 p6 p7 p8 lgp ix q0 q1 qf0 qf1
  cases hb:limB c ts 4 with
  | true =>
   have HB:Hi (limB c ts 4=true):=hb
   clear hb
   go_wp2_with fail
   exact ⟨⟨5,rfl,by omega,HR.o.1.step HK2.o,zg1 HR.o.2 HB.o⟩,by decide⟩
  | false =>
   have HB:Hi (refuse c ts=194):=zg0 (by decide) HR.o.2 hb
   clear hb
   go_wp2_with fail
   go_ret
   exact ⟨by rw [HB.o];rfl,HKW.o.step HK2.o⟩
 | 5,_ =>
  have ix:=(lix _ rfl wr).2.2.2.2.2.1
  go_wp2_with (first | (refine za8 rfl 203 _ _ rfl wr.heap.size 203 #[.int .i64 0,.nilFunc] #[.int .i64 195,.func (.func 131) #[] #[]] (by rfl) (by rfl) (za3 _ _) infL1 rfl (by simp [Value.oneCell']) ?_;obtain ⟨X,gL,hX,HKX,HKL⟩:=zk4 wr #[.int .i64 195,.func (.func 131) #[] #[]];rw [hX.1,hX.2];clear hX;obtain ⟨q0,q1,qf0,qf1⟩:=zd1 HKL.o.1;have lgl:=HKL.o.2;obtain ⟨p0,p1,p2,p3,p4,p5,p6,p7,p8,lgp⟩:=row9 (Ok.row' HKX.o HC.o)) | fail)
  refine (HL5.o _ (HKW.o.step HKX.o)).mono ?_
  rintro e w2 ⟨rfl,hk2⟩
  have HK2:Hi (Ok wr w2):=HKX.o.step hk2
  have r1:=hk2.cell (p:=⟨gL,0,none⟩) lgl q0
  have l2:=Nat.lt_of_lt_of_le lgl hk2.le
  clear hk2 p0 p1 p2 p3 p4 p5 p6 p7 p8 lgp ix q0 q1 qf0 qf1
  cases hb:limB c ts 5 with
  | true =>
   have HB:Hi (limB c ts 5=true):=hb
   clear hb
   go_wp2_with fail
   exact ⟨⟨6,rfl,by omega,HR.o.1.step HK2.o,zg1 HR.o.2 HB.o⟩,by decide⟩
  | false =>
   have HB:Hi (refuse c ts=195):=zg0 (by decide) HR.o.2 hb
   clear hb
   go_wp2_with fail
   go_ret
   exact ⟨by rw [HB.o];rfl,HKW.o.step HK2.o⟩
 | 6,_ =>
  have ix:=(lix _ rfl wr).2.2.2.2.2.2.1
  go_wp2_with (first | (refine za8 rfl 203 _ _ rfl wr.heap.size 203 #[.int .i64 0,.nilFunc] #[.int .i64 196,.func (.func 132) #[] #[]] (by rfl) (by rfl) (za3 _ _) infL1 rfl (by simp [Value.oneCell']) ?_;obtain ⟨X,gL,hX,HKX,HKL⟩:=zk4 wr #[.int .i64 196,.func (.func 132) #[] #[]];rw [hX.1,hX.2];clear hX;obtain ⟨q0,q1,qf0,qf1⟩:=zd1 HKL.o.1;have lgl:=HKL.o.2;obtain ⟨p0,p1,p2,p3,p4,p5,p6,p7,p8,lgp⟩:=row9 (Ok.row' HKX.o HC.o)) | fail)
  refine (HL6.o _ (HKW.o.step HKX.o)).mono ?_
  rintro e w2 ⟨rfl,hk2⟩
  have HK2:Hi (Ok wr w2):=HKX.o.step hk2
  have r1:=hk2.cell (p:=⟨gL,0,none⟩) lgl q0
  have l2:=Nat.lt_of_lt_of_le lgl hk2.le
  clear hk2 p0 p1 p2 p3 p4 p5 p6 p7 p8 lgp ix q0 q1 qf0 qf1
  cases hb:limB c ts 6 with
  | true =>
   have HB:Hi (limB c ts 6=true):=hb
   clear hb
   go_wp2_with fail
   exact ⟨⟨7,rfl,by omega,HR.o.1.step HK2.o,zg1 HR.o.2 HB.o⟩,by decide⟩
  | false =>
   have HB:Hi (refuse c ts=196):=zg0 (by decide) HR.o.2 hb
   clear hb
   go_wp2_with fail
   go_ret
   exact ⟨by rw [HB.o];rfl,HKW.o.step HK2.o⟩
 | 7,_ =>
  have ix:=(lix _ rfl wr).2.2.2.2.2.2.2.1
  go_wp2_with (first | (refine za8 rfl 203 _ _ rfl wr.heap.size 203 #[.int .i64 0,.nilFunc] #[.int .i64 197,.func (.func 134) #[] #[]] (by rfl) (by rfl) (za3 _ _) infL1 rfl (by simp [Value.oneCell']) ?_;obtain ⟨X,gL,hX,HKX,HKL⟩:=zk4 wr #[.int .i64 197,.func (.func 134) #[] #[]];rw [hX.1,hX.2];clear hX;obtain ⟨q0,q1,qf0,qf1⟩:=zd1 HKL.o.1;have lgl:=HKL.o.2;obtain ⟨p0,p1,p2,p3,p4,p5,p6,p7,p8,lgp⟩:=row9 (Ok.row' HKX.o HC.o)) | fail)
  refine (HL7.o _ (HKW.o.step HKX.o)).mono ?_
  rintro e w2 ⟨rfl,hk2⟩
  have HK2:Hi (Ok wr w2):=HKX.o.step hk2
  have r1:=hk2.cell (p:=⟨gL,0,none⟩) lgl q0
  have l2:=Nat.lt_of_lt_of_le lgl hk2.le
  clear hk2 p0 p1 p2 p3 p4 p5 p6 p7 p8 lgp ix q0 q1 qf0 qf1
  cases hb:limB c ts 7 with
  | true =>
   have HB:Hi (limB c ts 7=true):=hb
   clear hb
   go_wp2_with fail
   exact ⟨⟨8,rfl,by omega,HR.o.1.step HK2.o,zg1 HR.o.2 HB.o⟩,by decide⟩
  | false =>
   have HB:Hi (refuse c ts=197):=zg0 (by decide) HR.o.2 hb
   clear hb
   go_wp2_with fail
   go_ret
   exact ⟨by rw [HB.o];rfl,HKW.o.step HK2.o⟩
 | 8,_ =>
  have ix:=(lix _ rfl wr).2.2.2.2.2.2.2.2
  go_wp2_with (first | (refine za8 rfl 203 _ _ rfl wr.heap.size 203 #[.int .i64 0,.nilFunc] #[.int .i64 198,.func (.func 135) #[] #[]] (by rfl) (by rfl) (za3 _ _) infL1 rfl (by simp [Value.oneCell']) ?_;obtain ⟨X,gL,hX,HKX,HKL⟩:=zk4 wr #[.int .i64 198,.func (.func 135) #[] #[]];rw [hX.1,hX.2];clear hX;obtain ⟨q0,q1,qf0,qf1⟩:=zd1 HKL.o.1;have lgl:=HKL.o.2;obtain ⟨p0,p1,p2,p3,p4,p5,p6,p7,p8,lgp⟩:=row9 (Ok.row' HKX.o HC.o)) | fail)
  refine (HL8.o _ (HKW.o.step HKX.o)).mono ?_
  rintro e w2 ⟨rfl,hk2⟩
  have HK2:Hi (Ok wr w2):=HKX.o.step hk2
  have r1:=hk2.cell (p:=⟨gL,0,none⟩) lgl q0
  have l2:=Nat.lt_of_lt_of_le lgl hk2.le
  clear hk2 p0 p1 p2 p3 p4 p5 p6 p7 p8 lgp ix q0 q1 qf0 qf1
  cases hb:limB c ts 8 with
  | true =>
   have HB:Hi (limB c ts 8=true):=hb
   clear hb
   go_wp2_with fail
   exact ⟨⟨9,rfl,by omega,HR.o.1.step HK2.o,zg1 HR.o.2 HB.o⟩,by decide⟩
  | false =>
   have HB:Hi (refuse c ts=198):=zg0 (by decide) HR.o.2 hb
   clear hb
   go_wp2_with fail
   go_ret
   exact ⟨by rw [HB.o];rfl,HKW.o.step HK2.o⟩
 | 9,_ =>
  go_wp2_with fail
  go_ret
  exact ⟨by rw [yd8 HR.o.2];rfl,HKW.o⟩
 | k+10,h=>exact absurd h (by omega)
end
section
open Go.RowKit Go.Maps Go.Extern.Stop Go.Stop Go.Extern
theorem zi9 {W:World} {p:Addr} {v:Value} (h:W.cell? p=some v):p.block<W.heap.size:=by
 rcases Nat.lt_or_ge p.block W.heap.size with hh | hh
 ·exact hh
 rw [World.cell?,Array.getElem?_eq_none hh] at h;cases h
def CkIs (w:World) (r:Int) (e:Ending) (w':World):Prop:=((r=0/\e=.returned .nilIface)\/(r≠0/\∃ b:Nat,e=.returned (.iface 87 (.pointer (some ⟨b,0,none⟩)))/\w.heap.size<=b/\b<w'.heap.size/\w'.cell? ⟨b,0,none⟩=some (.int .i64 r)))/\Ok w w'
theorem zF8 (c:Nat->Int) (ts:List Int) (tz:Option Addr) (tc:Nat) (w:World) (h:SL w 1 (.slice tz ts.length tc) ts.length (ilL ts)) (et:TypeId) (eu:Value) (hE:w.cell? ⟨1,0,none⟩=some (.iface et eu)):Calls Tryz.prog 26 #[.agg #[.int .i64 (c 0),.int .i64 (c 1),.int .i64 (c 2),.int .i64 (c 3),.int .i64 (c 4),.int .i64 (c 5),.slice tz ts.length tc,.int .i64 (c 7),.int .i64 (c 8)]] w fun e w'=>CkIs w (refuse c ts) e w':=by
 have HM:Hi (∀ Y,Ok w Y->Calls Tryz.prog 57 #[.agg #[.int .i64 (c 0),.int .i64 (c 1),.int .i64 (c 2),.int .i64 (c 3),.int .i64 (c 4),.int .i64 (c 5),.slice tz ts.length tc,.int .i64 (c 7),.int .i64 (c 8)]] Y fun e w'=>e=.returned (.int .i64 (refuse c ts))/\Ok Y w'):=fun Y hY=>zK4 c ts tz tc Y (h.below hY)
 have HE:=hid hE
 have HG:Hi (1<w.heap.size):=zi9 hE
 clear h hE
 obtain ⟨N,hN⟩:=qq (ts.length)
 rw [<-hN] at HM
 rw [<-hN]
 clear hN
 obtain ⟨r,hr⟩:=qq (refuse c ts)
 rw [<-hr] at HM
 rw [<-hr]
 clear hr
 by_cases h0:r=0
 ·rw [h0] at HM ⊢
  go_enter Tryz.func26,Tryz.ntmps26
  go_wp2_with fail
  refine (HM.o _ ((Ok.refl w).alloc _)).mono ?_
  rintro e w1 ⟨rfl,hk⟩
  have HK:Hi (Ok w w1):=((Ok.refl w).alloc _).step hk
  clear hk
  go_wp2_with fail
  go_ret
  exact ⟨Or.inl ⟨rfl,rfl⟩,HK.o⟩
 have H0:Hi (¬r=0):=h0
 have hb:(r != 0)=true:=bne_iff_ne.2 h0
 clear h0
 go_enter Tryz.func26,Tryz.ntmps26
 go_wp2_with fail
 refine (HM.o _ ((Ok.refl w).alloc _)).mono ?_
 rintro e w1 ⟨rfl,hk⟩
 have HK:Hi (Ok w w1):=((Ok.refl w).alloc _).step hk
 have hE1:=HK.o.cell (p:=⟨1,0,none⟩) HG.o HE.o
 clear hk
 go_wp2_with fail
 go_ret
 exact ⟨Or.inr ⟨H0.o,w1.heap.size,rfl,HK.o.le,za2 (za3 _ _),(cell_of_row _ _ 0 _ _ _ (za3 _ _)).trans rfl⟩,HK.o.alloc _⟩
theorem yD4 (t:Value) (w:World):Calls Tryz.prog 25 #[.nilIface,t] w fun e w'=>e=.returned (.bool false)/\w'=w:=by
 go_enter Tryz.func25,Tryz.ntmps25
 go_wp2
 go_ret
 exact ⟨rfl,rfl⟩
theorem zK5 (t:Addr) (w:World):(callFunc 53 #[.iface 92 (.pointer (some t))]).run Tryz.prog w=.ok (.value (.agg #[.pointer (some ⟨8,92,none⟩),.pointer (some ⟨w.heap.size,0,none⟩),.int .u64 150])) (w.alloc (.cells #[.pointer (some t)] 92)):=by kernel_rfl
theorem zt8 (t:Addr) (w:World):(callFunc 53 #[.iface 87 (.pointer (some t))]).run Tryz.prog w=.ok (.value (.agg #[.pointer (some ⟨8,87,none⟩),.pointer (some ⟨w.heap.size,0,none⟩),.int .u64 150])) (w.alloc (.cells #[.pointer (some t)] 87)):=by kernel_rfl
theorem yz4 (a:Addr) (w:World):(callFunc 54 #[.agg #[.pointer (some ⟨8,92,none⟩),.pointer (some a),.int .u64 150]]).run Tryz.prog w=.ok (.value (.iface 188 (.agg #[.pointer (some ⟨8,92,none⟩)]))) w:=by kernel_rfl
theorem yo9 (w:World):(callFunc 188 #[.pointer (some ⟨8,92,none⟩)]).run Tryz.prog w=.ok (.value (.int .u8 22)) w:=by kernel_rfl
theorem yp0 (w:World):(callFunc 188 #[.pointer (some ⟨8,87,none⟩)]).run Tryz.prog w=.ok (.value (.int .u8 22)) w:=by kernel_rfl
theorem yz5 (w:World):(callFunc 200 #[.agg #[.pointer (some ⟨8,92,none⟩)]]).run Tryz.prog w=.ok (.value (.iface 188 (.agg #[.pointer (some ⟨8,87,none⟩)]))) w:=by kernel_rfl
theorem yz6 (w:World):(callFunc 201 #[.agg #[.pointer (some ⟨8,87,none⟩)],.iface 188 (.agg #[.pointer (some ⟨8,90,none⟩)])]).run Tryz.prog w=.ok (.value (.bool true)) w:=by kernel_rfl
theorem zF9 (v:Value) (w:World):(callFunc 93 #[.iface 87 v]).run Tryz.prog w=.ok (.value (.iface 188 (.agg #[.pointer (some ⟨8,87,none⟩)]))) w:=by kernel_rfl
theorem zG0 (w:World):(callFunc 198 #[.agg #[.pointer (some ⟨8,87,none⟩)],.iface 188 (.agg #[.pointer (some ⟨8,87,none⟩)])]).run Tryz.prog w=.ok (.value (.bool true)) w:=by kernel_rfl
theorem yp1 (h:Value) (w:World):(Go.method 402 188 (.agg #[h]) "Kind").run Tryz.prog w=.ok (188,h) w:=by kernel_rfl
theorem yp2 (h:Value) (w:World):(Go.method 402 188 (.agg #[h]) "Elem").run Tryz.prog w=.ok (200,.agg #[h]) w:=by kernel_rfl
theorem yp3 (h:Value) (w:World):(Go.method 402 188 (.agg #[h]) "Implements").run Tryz.prog w=.ok (201,.agg #[h]) w:=by kernel_rfl
theorem zx5 (h:Value) (w:World):(Go.method 402 188 (.agg #[h]) "AssignableTo").run Tryz.prog w=.ok (198,.agg #[h]) w:=by kernel_rfl
theorem zG1 (a:Addr) (w:World):(ReflectliteValue.parts (.agg #[.pointer (some ⟨8,92,none⟩),.pointer (some a),.int .u64 150])).run Tryz.prog w=.ok (some (92,a,150)) w:=by kernel_rfl
theorem yd9 (a:Addr) (w:World):(ReflectliteValue.parts (.agg #[.pointer (some ⟨8,87,none⟩),.pointer (some a),.int .u64 150])).run Tryz.prog w=.ok (some (87,a,150)) w:=by kernel_rfl
theorem ye0 (a:Addr) (w:World):(ReflectliteValue.parts (.agg #[.pointer (some ⟨8,87,none⟩),.pointer (some a),.int .u64 406])).run Tryz.prog w=.ok (some (87,a,406)) w:=by kernel_rfl
theorem yp4 (w:World):(Rtype.elem? 92).run Tryz.prog w=.ok (some 87) w:=by kernel_rfl
theorem as_mk (p:Addr) (w:World):(ReflectliteValue.mk 87 p ReflectliteValue.flagAddr).run Tryz.prog w=.ok (.agg #[.pointer (some ⟨8,87,none⟩),.pointer (some p),.int .u64 406]) w:=by kernel_rfl
theorem ye1 (w:World):(Rtype.directlyAssignable 87 87).run Tryz.prog w=.ok true w:=by kernel_rfl
theorem yp5 (a p:Addr) (W:World) (ha:W.cell? a=some (.pointer (some p))):(callFunc 55 #[.agg #[.pointer (some ⟨8,92,none⟩),.pointer (some a),.int .u64 150]]).run Tryz.prog W=.ok (.value (.bool false)) W:=by
 rw [run_callFunc_extern (e:=ReflectliteValue.method (ReflectliteValue.valueError "reflectlite.Value.IsNil" 0) ReflectliteValue.isNil) Tryz.func55 (by kernel_rfl) (by kernel_rfl) (by kernel_rfl) (by kernel_rfl)]
 rw [show ReflectliteValue.method (ReflectliteValue.valueError "reflectlite.Value.IsNil" 0) ReflectliteValue.isNil #[.agg #[.pointer (some ⟨8,92,none⟩),.pointer (some a),.int .u64 150]]=(ReflectliteValue.parts (.agg #[.pointer (some ⟨8,92,none⟩),.pointer (some a),.int .u64 150]) >>= fun p=>_) from rfl]
 simp [zG1,ReflectliteValue.isNil,loadVar,isAgg,underlying,Tryz.underlying92,ha,Result.andThen]
theorem yp6 (a p:Addr) (W:World) (ha:W.cell? a=some (.pointer (some p))):(callFunc 94 #[.agg #[.pointer (some ⟨8,92,none⟩),.pointer (some a),.int .u64 150]]).run Tryz.prog W=.ok (.value (.agg #[.pointer (some ⟨8,87,none⟩),.pointer (some p),.int .u64 406])) W:=by
 rw [run_callFunc_extern (e:=ReflectliteValue.method (ReflectliteValue.valueError "reflectlite.Value.Elem" 0) ReflectliteValue.elem) Tryz.func94 (by kernel_rfl) (by kernel_rfl) (by kernel_rfl) (by kernel_rfl)]
 rw [show ReflectliteValue.method (ReflectliteValue.valueError "reflectlite.Value.Elem" 0) ReflectliteValue.elem #[.agg #[.pointer (some ⟨8,92,none⟩),.pointer (some a),.int .u64 150]]=(ReflectliteValue.parts (.agg #[.pointer (some ⟨8,92,none⟩),.pointer (some a),.int .u64 150]) >>= fun p=>_) from rfl]
 simp [zG1,ReflectliteValue.elem,loadVar,isAgg,underlying,Tryz.underlying92,ha,Result.andThen,yp4,as_mk]
theorem yD5 (t b e:Addr) (old:Value) (W:World) (hb:W.cell? b=some (.pointer (some e))) (ht:W.cell? t=some old) (hf:W.frozen? t=false):(callFunc 95 #[.agg #[.pointer (some ⟨8,87,none⟩),.pointer (some t),.int .u64 406],.agg #[.pointer (some ⟨8,87,none⟩),.pointer (some b),.int .u64 150]]).run Tryz.prog W=.ok (.value (.tuple #[])) (W.setCell t (.pointer (some e))):=by
 rw [run_callFunc_extern (e:=ReflectliteValue.set) Tryz.func95 (by kernel_rfl) (by kernel_rfl) (by kernel_rfl) (by kernel_rfl)]
 rw [show ReflectliteValue.set #[.agg #[.pointer (some ⟨8,87,none⟩),.pointer (some t),.int .u64 406],.agg #[.pointer (some ⟨8,87,none⟩),.pointer (some b),.int .u64 150]]=(ReflectliteValue.parts (.agg #[.pointer (some ⟨8,87,none⟩),.pointer (some t),.int .u64 406]) >>= fun p=>ReflectliteValue.parts (.agg #[.pointer (some ⟨8,87,none⟩),.pointer (some b),.int .u64 150]) >>= fun q=>_) from rfl]
 simp [yd9,ye0,Result.andThen,ReflectliteValue.flagAddr,loadVar,isAgg,underlying,Tryz.underlying87,hb,ye1,storeVar,Value.cells,storeCells,Addr.add]
 rw [run_store Tryz.prog W t _ _ (by rfl)]
 simp [ht,hf]
end
section
open Go.RowKit Go.Maps Go.Extern.Stop Go.Stop Go.Extern
theorem as_in (e:Addr) (g a:Nat) (old:Value) (w:World) (ha:w.cell? ⟨a,0,none⟩=some (.pointer (some ⟨g,0,none⟩))) (ht:w.cell? ⟨g,0,none⟩=some old) (hf:w.frozen? ⟨g,0,none⟩=false):Calls Tryz.prog 56 #[.iface 87 (.pointer (some e)),.iface 92 (.pointer (some ⟨g,0,none⟩)),.agg #[.pointer (some ⟨8,92,none⟩),.pointer (some ⟨a,0,none⟩),.int .u64 150],.iface 188 (.agg #[.pointer (some ⟨8,87,none⟩)])] w fun ev w'=>ev=.returned (.bool true)/\∃ w1,Ok w w1/\w'=w1.setCell ⟨g,0,none⟩ (.pointer (some e)):=by
 have f2:=zt8
 have f8:=zF9
 have f9:=zG0
 have m4:=zx5
 have hal:a<w.heap.size:=zi9 ha
 have hgl:g<w.heap.size:=zi9 ht
 have HX:Hi (∀ o1,Ok w (w.alloc o1)):=fun o1=>(Ok.refl w).alloc _
 have n2:=yp6 ⟨a,0,none⟩ ⟨g,0,none⟩ (w.alloc (.cells #[.pointer (some ⟨8,92,none⟩),.pointer (some ⟨a,0,none⟩),.int .u64 150] 136)) ((HX.o _).cell (p:=⟨a,0,none⟩) hal ha)
 have hw2:Ok w ((w.alloc (.cells #[.pointer (some ⟨8,92,none⟩),.pointer (some ⟨a,0,none⟩),.int .u64 150] 136)).alloc (.cells #[.pointer (some e)] 87)):=((Ok.refl w).alloc _).alloc _
 have HW2:Hi _:=hw2
 have n3:=yD5 ⟨g,0,none⟩ ⟨w.heap.size+1,0,none⟩ e old ((w.alloc (.cells #[.pointer (some ⟨8,92,none⟩),.pointer (some ⟨a,0,none⟩),.int .u64 150] 136)).alloc (.cells #[.pointer (some e)] 87)) (by rw [World.cell?_alloc_at _ _ _ _ (by simp)];rfl) (hw2.cell (p:=⟨g,0,none⟩) hgl ht) (by rw [World.frozen?_alloc_old _ _ _ (by simp;omega),World.frozen?_alloc_old _ _ _ (by simp;omega)];exact hf)
 clear hw2 ha ht hf hal hgl
 go_enter Tryz.func56,Tryz.ntmps56
 go_wp2_with fail
 refine wp_loop_rounds 1 ?_
 rw [rounds_succ]
 go_wp2_with fail
 go_ret
 exact ⟨rfl,_,HW2.o,rfl⟩
theorem yD6 (e:Addr) (g:Nat) (old:Value) (w:World) (hg:w.cell? ⟨0,0,none⟩=some (.iface 188 (.agg #[.pointer (some ⟨8,90,none⟩)]))) (ht:w.cell? ⟨g,0,none⟩=some old) (hf:w.frozen? ⟨g,0,none⟩=false):Calls Tryz.prog 25 #[.iface 87 (.pointer (some e)),.iface 92 (.pointer (some ⟨g,0,none⟩))] w fun ev w'=>ev=.returned (.bool true)/\∃ w1,Ok w w1/\w'=w1.setCell ⟨g,0,none⟩ (.pointer (some e)):=by
 have f1:=zK5
 have f2:=zt8
 have f3:=yz4
 have f4:=yo9
 have f5:=yp0
 have f6:=yz5
 have f7:=yz6
 have f8:=zF9
 have f9:=zG0
 have m1:=yp1
 have m2:=yp2
 have m3:=yp3
 have m4:=zx5
 have hl:=zi9 hg
 have hgl:g<w.heap.size:=zi9 ht
 have n1:=fun W h=>yp5 ⟨w.heap.size,0,none⟩ ⟨g,0,none⟩ W h
 have HT:Hi (w.cell? ⟨g,0,none⟩=some old/\w.frozen? ⟨g,0,none⟩=false/\g<w.heap.size):=⟨ht,hf,hgl⟩
 have hgg:¬g=w.heap.size:=by omega
 go_enter Tryz.func25,Tryz.ntmps25
 go_wp2_with fail
 have hk:Ok w ((w.alloc (.cells #[.pointer (some ⟨g,0,none⟩)] 92)).alloc (.cells #[.pointer (some ⟨8,92,none⟩),.pointer (some ⟨w.heap.size,0,none⟩),.int .u64 150] 136)):=((Ok.refl w).alloc _).alloc _
 have HK:Hi _:=hk
 refine (as_in e g w.heap.size old _ ?_ (hk.cell (p:=⟨g,0,none⟩) HT.o.2.2 HT.o.1) ?_).mono ?_
 ·rw [World.cell?_alloc_lt _ _ _ (by simp),World.cell?_alloc_at _ _ _ _ rfl];rfl
 ·rw [World.frozen?_alloc_old _ _ _ (by have:=HT.o.2.2;simp;omega),World.frozen?_alloc_old _ _ _ (by have:=HT.o.2.2;simp;omega)];exact HT.o.2.1
 rintro ev w' ⟨rfl,w1,hk1,rfl⟩
 have HK1:Hi (Ok w w1):=hk.step hk1
 clear f1 f2 f3 f4 f5 f6 f7 f8 f9 m1 m2 m3 m4 n1 hk hk1 hg ht hf
 go_wp2_with fail
 go_ret
 exact ⟨rfl,w1,HK1.o,rfl⟩
end
section
open Go.RowKit Go.Maps Go.Extern.Stop Go.Stop Go.Extern
def LwIs (w:World) (G:Option (Nat×Nat×List Ed)) (e:Ending) (w':World):Prop:=(match G with
 | none=>e=.returned (.tuple #[.agg #[.slice none 0 0,.slice none 0 0,.slice none 0 0,.slice none 0 0,.slice none 0 0,.slice none 0 0,.int .i64 0,.int .i64 0,.slice none 0 0],.int .i64 2])
 | some (N,x,es)=>∃ (u:Nat->Value) (eo:Option Addr) (ec:Nat),e=.returned (.tuple #[.agg #[u 0,u 1,u 2,u 3,u 4,u 5,.int .i64 (N:Nat),.int .i64 (x:Nat),.slice eo es.length ec],.int .i64 0])/\(∀ i,i<6->∃ ao n c,u i=.slice ao n c)/\w'.ownsRow 0 56 6 (.slice eo es.length ec) es.length (edL es))/\Ok w w'
def LoIs (w:World) (G:Option (Nat×Nat×List Ed)) (r:Int) (e:Ending) (w':World):Prop:=match G with
 | none=>LwIs w none e w'
 | some g=>if r=0 then LwIs w (some g) e w' else e=.returned (.tuple #[.agg #[.slice none 0 0,.slice none 0 0,.slice none 0 0,.slice none 0 0,.slice none 0 0,.slice none 0 0,.int .i64 0,.int .i64 0,.slice none 0 0],.int .i64 r])/\Ok w w'
theorem infGr:(Tryz.prog.info? 42).map (·.size)=some 9:=by kernel_rfl
theorem ye2:(#[.slice none 0 0,.slice none 0 0,.slice none 0 0,.slice none 0 0,.slice none 0 0,.slice none 0 0,.int .i64 0,.int .i64 0,.slice none 0 0]:Array Value).all (·.oneCell')=true:=by simp [Value.oneCell']
theorem zK6 (v:Nat->Value) (c:Nat->Int) (ts:List Int) (tz:Option Addr) (tc:Nat) (r:Int) (w:World) (h:∀ Y,Ok w Y->Calls Tryz.prog 24 #[.agg #[v 0,v 1,v 2,v 3,v 4,v 5]] Y fun e w'=>LwIs Y none e w'):Calls Tryz.prog 12 #[.agg #[v 0,v 1,v 2,v 3,v 4,v 5],.agg #[.int .i64 (c 0),.int .i64 (c 1),.int .i64 (c 2),.int .i64 (c 3),.int .i64 (c 4),.int .i64 (c 5),.slice tz ts.length tc,.int .i64 (c 7),.int .i64 (c 8)]] w fun e w'=>LoIs w none r e w':=by
 have HL:=hid h
 clear h
 obtain ⟨N,hN⟩:=qq (ts.length)
 rw [<-hN]
 clear hN
 go_enter Tryz.func12,Tryz.ntmps12
 go_wp2_with fail
 obtain ⟨W,hW⟩:=qq (((w.alloc (Obj.cells #[v 0,v 1,v 2,v 3,v 4,v 5] 30)).alloc (Obj.cells #[.int .i64 (c 0),.int .i64 (c 1),.int .i64 (c 2),.int .i64 (c 3),.int .i64 (c 4),.int .i64 (c 5),.slice tz N tc,.int .i64 (c 7),.int .i64 (c 8)] 24)).alloc (Obj.cells #[.slice none 0 0,.slice none 0 0,.slice none 0 0,.slice none 0 0,.slice none 0 0,.slice none 0 0,.int .i64 0,.int .i64 0,.slice none 0 0] 42))
 obtain ⟨gC,hgC⟩:=qq (w.heap.size+1)
 obtain ⟨gR,hgR⟩:=qq (w.heap.size+1+1)
 rw [<-hW,<-hgR,<-hgC]
 have HK0:Hi (Ok w W):=by rw [hW];exact (((Ok.refl w).alloc _).alloc _).alloc _
 have HRR0:Hi (W.heap[gR]?=some (.cells #[.slice none 0 0,.slice none 0 0,.slice none 0 0,.slice none 0 0,.slice none 0 0,.slice none 0 0,.int .i64 0,.int .i64 0,.slice none 0 0] 42 (0,0))):=by rw [hW,hgR];exact jj
 have HRC0:Hi (W.heap[gC]?=some (.cells #[Value.int IntKind.i64 (c 0),Value.int IntKind.i64 (c 1),Value.int IntKind.i64 (c 2),Value.int IntKind.i64 (c 3),Value.int IntKind.i64 (c 4),Value.int IntKind.i64 (c 5),Value.slice tz N tc,Value.int IntKind.i64 (c 7),Value.int IntKind.i64 (c 8)] 24 (0,0))):=by rw [hW,hgC];exact jj
 have HG:Hi (w.heap.size<=gR/\w.heap.size<=gC/\gC≠gR):=by unfold Hi;omega
 clear hW hgR hgC
 refine (HL.o W HK0.o).mono ?_
 rintro e w1 hv
 unfold LwIs at hv
 obtain ⟨rfl,hk1⟩:=hv
 have HK1:Hi (Ok w w1):=HK0.o.step hk1
 have HRR1:Hi _:=Ok.row' hk1 HRR0.o
 have HNE:Hi (gR≠w1.heap.size):=by have:=za2 HRR1.o;unfold Hi;omega
 clear hk1 HL HRC0
 go_wp2_with (first | (refine za8 rfl 42 _ _ rfl w1.heap.size 42 #[.slice none 0 0,.slice none 0 0,.slice none 0 0,.slice none 0 0,.slice none 0 0,.slice none 0 0,.int .i64 0,.int .i64 0,.slice none 0 0] #[.slice none 0 0,.slice none 0 0,.slice none 0 0,.slice none 0 0,.slice none 0 0,.slice none 0 0,.int .i64 0,.int .i64 0,.slice none 0 0] (by rfl) (by rfl) (za3 _ _) infGr rfl ye2 ?_;obtain ⟨X,hX⟩:=qq ((w1.alloc (Obj.cells #[.slice none 0 0,.slice none 0 0,.slice none 0 0,.slice none 0 0,.slice none 0 0,.slice none 0 0,.int .i64 0,.int .i64 0,.slice none 0 0] 42)).setRow w1.heap.size #[.slice none 0 0,.slice none 0 0,.slice none 0 0,.slice none 0 0,.slice none 0 0,.slice none 0 0,.int .i64 0,.int .i64 0,.slice none 0 0]);rw [<-hX];have HKX:Hi (Ok w1 X):=(by rw [hX];exact zd0 ((Ok.refl w1).alloc _) (Nat.le_refl _) _);clear hX) | (refine za8 rfl 42 _ _ rfl gR 42 #[.slice none 0 0,.slice none 0 0,.slice none 0 0,.slice none 0 0,.slice none 0 0,.slice none 0 0,.int .i64 0,.int .i64 0,.slice none 0 0] #[.slice none 0 0,.slice none 0 0,.slice none 0 0,.slice none 0 0,.slice none 0 0,.slice none 0 0,.int .i64 0,.int .i64 0,.slice none 0 0] (by rfl) (by rfl) (Ok.row' HKX.o HRR1.o) infGr rfl ye2 ?_) | fail)
 refine bodyPost_ret (zc0 rfl _ _ gR 42 #[_,_,_,_,_,_,_,_,_] (0,0) _ rfl (setRow_heap _ _ _ _ _ _ (Ok.row' HKX.o HRR1.o)) Tryz.underlying42 rfl infGr) rfl ?_
 exact ⟨rfl,zd0 (HK1.o.step HKX.o) HG.o.1 _⟩
theorem slices6 {u:Nat->Value} (h:∀ i,i<6->∃ ao n c,u i=.slice ao n c):∃ g0 n0 k0 g1 n1 k1 g2 n2 k2 g3 n3 k3 g4 n4 k4 g5 n5 k5,u 0=.slice g0 n0 k0/\u 1=.slice g1 n1 k1/\u 2=.slice g2 n2 k2/\u 3=.slice g3 n3 k3/\u 4=.slice g4 n4 k4/\u 5=.slice g5 n5 k5:=by
 obtain ⟨g0,n0,k0,e0⟩:=h 0 (by decide)
 obtain ⟨g1,n1,k1,e1⟩:=h 1 (by decide)
 obtain ⟨g2,n2,k2,e2⟩:=h 2 (by decide)
 obtain ⟨g3,n3,k3,e3⟩:=h 3 (by decide)
 obtain ⟨g4,n4,k4,e4⟩:=h 4 (by decide)
 obtain ⟨g5,n5,k5,e5⟩:=h 5 (by decide)
 exact ⟨g0,n0,k0,g1,n1,k1,g2,n2,k2,g3,n3,k3,g4,n4,k4,g5,n5,k5,e0,e1,e2,e3,e4,e5⟩
theorem zl8 (w:World) (cs:Array Value):∃ (X:World) (g:Nat),((w.alloc (Obj.cells #[.slice none 0 0,.slice none 0 0,.slice none 0 0,.slice none 0 0,.slice none 0 0,.slice none 0 0,.int .i64 0,.int .i64 0,.slice none 0 0] 42)).setRow w.heap.size cs=X/\w.heap.size=g)/\Hi (Ok w X)/\Hi (X.heap[g]?=some (.cells cs 42 (0,0))/\w.heap.size<=g) :=
 ⟨_,_,⟨rfl,rfl⟩,zd0 ((Ok.refl w).alloc _) (Nat.le_refl _) _,setRow_heap _ _ _ _ _ _ (za3 _ _),Nat.le_refl _⟩
theorem zG2 (v:Nat->Value) (c:Nat->Int) (ts:List Int) (tz:Option Addr) (tc:Nat) (NN x:Nat) (es:List Ed) (w:World) (h:∀ Y,Ok w Y->Calls Tryz.prog 24 #[.agg #[v 0,v 1,v 2,v 3,v 4,v 5]] Y fun e w'=>LwIs Y (some (NN,x,es)) e w') (hC:∀ Y,Ok w Y->Calls Tryz.prog 26 #[.agg #[.int .i64 (c 0),.int .i64 (c 1),.int .i64 (c 2),.int .i64 (c 3),.int .i64 (c 4),.int .i64 (c 5),.slice tz ts.length tc,.int .i64 (c 7),.int .i64 (c 8)]] Y fun e w'=>CkIs Y 0 e w'):Calls Tryz.prog 12 #[.agg #[v 0,v 1,v 2,v 3,v 4,v 5],.agg #[.int .i64 (c 0),.int .i64 (c 1),.int .i64 (c 2),.int .i64 (c 3),.int .i64 (c 4),.int .i64 (c 5),.slice tz ts.length tc,.int .i64 (c 7),.int .i64 (c 8)]] w fun e w'=>LwIs w (some (NN,x,es)) e w':=by
 have HL:=hid h
 have HC:=hid hC
 clear h hC
 obtain ⟨N,hN⟩:=qq (ts.length)
 rw [<-hN] at HC
 rw [<-hN]
 clear hN
 go_enter Tryz.func12,Tryz.ntmps12
 go_wp2_with fail
 obtain ⟨W,hW⟩:=qq (((w.alloc (Obj.cells #[v 0,v 1,v 2,v 3,v 4,v 5] 30)).alloc (Obj.cells #[.int .i64 (c 0),.int .i64 (c 1),.int .i64 (c 2),.int .i64 (c 3),.int .i64 (c 4),.int .i64 (c 5),.slice tz N tc,.int .i64 (c 7),.int .i64 (c 8)] 24)).alloc (Obj.cells #[.slice none 0 0,.slice none 0 0,.slice none 0 0,.slice none 0 0,.slice none 0 0,.slice none 0 0,.int .i64 0,.int .i64 0,.slice none 0 0] 42))
 obtain ⟨gC,hgC⟩:=qq (w.heap.size+1)
 obtain ⟨gR,hgR⟩:=qq (w.heap.size+1+1)
 rw [<-hW,<-hgR,<-hgC]
 have HK0:Hi (Ok w W):=by rw [hW];exact (((Ok.refl w).alloc _).alloc _).alloc _
 have HRR0:Hi (W.heap[gR]?=some (.cells #[.slice none 0 0,.slice none 0 0,.slice none 0 0,.slice none 0 0,.slice none 0 0,.slice none 0 0,.int .i64 0,.int .i64 0,.slice none 0 0] 42 (0,0))):=by rw [hW,hgR];exact jj
 have HRC0:Hi (W.heap[gC]?=some (.cells #[Value.int IntKind.i64 (c 0),Value.int IntKind.i64 (c 1),Value.int IntKind.i64 (c 2),Value.int IntKind.i64 (c 3),Value.int IntKind.i64 (c 4),Value.int IntKind.i64 (c 5),Value.slice tz N tc,Value.int IntKind.i64 (c 7),Value.int IntKind.i64 (c 8)] 24 (0,0))):=by rw [hW,hgC];exact jj
 have HG:Hi (w.heap.size<=gR/\w.heap.size<=gC/\gC≠gR):=by unfold Hi;omega
 clear hW hgR hgC
 refine (HL.o W HK0.o).mono ?_
 rintro e w1 hv
 unfold LwIs at hv
 obtain ⟨⟨u,eo,ec,rfl,hu,hes⟩,hk1⟩:=hv
 have HU:Hi (∀ i,i<6->∃ ao n c,u i=.slice ao n c):=hu
 have HES:Hi (w1.ownsRow 0 56 6 (.slice eo es.length ec) es.length (edL es)):=hes
 have HK1:Hi (Ok w w1):=HK0.o.step hk1
 have HRR1:Hi _:=Ok.row' hk1 HRR0.o
 have HRC1:Hi _:=Ok.row' hk1 HRC0.o
 have HON:Hi ((#[u 0,u 1,u 2,u 3,u 4,u 5,.int .i64 (NN:Nat),.int .i64 (x:Nat),.slice eo es.length ec]:Array Value).all (·.oneCell')=true):=by
  obtain ⟨g0,n0,k0,g1,n1,k1,g2,n2,k2,g3,n3,k3,g4,n4,k4,g5,n5,k5,e0,e1,e2,e3,e4,e5⟩:=slices6 hu
  unfold Hi
  rw [e0,e1,e2,e3,e4,e5]
  simp [Value.oneCell']
 clear hk1 HL hu hes
 go_wp2_with (first | (refine za8 rfl 42 _ _ rfl w1.heap.size 42 #[.slice none 0 0,.slice none 0 0,.slice none 0 0,.slice none 0 0,.slice none 0 0,.slice none 0 0,.int .i64 0,.int .i64 0,.slice none 0 0] #[u 0,u 1,u 2,u 3,u 4,u 5,.int .i64 (NN:Nat),.int .i64 (x:Nat),.slice eo es.length ec] (by rfl) (by rfl) (za3 _ _) infGr rfl HON.o ?_;obtain ⟨X,gL,hX,HKX,HKL⟩:=zl8 w1 #[u 0,u 1,u 2,u 3,u 4,u 5,.int .i64 (NN:Nat),.int .i64 (x:Nat),.slice eo es.length ec];rw [hX.1,hX.2];clear hX;obtain ⟨p0,p1,p2,p3,p4,p5,p6,p7,p8,lgp⟩:=row9 (Ok.row' HKX.o HRC1.o)) | fail)
 refine (HC.o _ ((HK1.o.step HKX.o).alloc _)).mono ?_
 rintro e w2 hv
 obtain ⟨hv,hk2⟩:=hv
 obtain rfl:e=.returned .nilIface:=hv.elim (fun h=>h.2) (fun h=>absurd rfl h.1)
 clear hv
 have HK2:Hi (Ok X w2):=((Ok.refl X).alloc _).step hk2
 clear hk2 p0 p1 p2 p3 p4 p5 p6 p7 p8 lgp
 go_wp2_with (first | (refine (yD4 _ _).mono ?_;rintro e w3 ⟨rfl,rfl⟩;obtain ⟨p0,p1,p2,p3,p4,p5,p6,p7,p8,lgp⟩:=row9 (Ok.row' HK2.o HKL.o.1)) | (refine za8 rfl 42 _ _ rfl gR 42 #[.slice none 0 0,.slice none 0 0,.slice none 0 0,.slice none 0 0,.slice none 0 0,.slice none 0 0,.int .i64 0,.int .i64 0,.slice none 0 0] #[u 0,u 1,u 2,u 3,u 4,u 5,.int .i64 (NN:Nat),.int .i64 (x:Nat),.slice eo es.length ec] (by rfl) (by rfl) (Ok.row' (HKX.o.step HK2.o) HRR1.o) infGr rfl HON.o ?_;clear p0 p1 p2 p3 p4 p5 p6 p7 p8 lgp) | fail)
 refine bodyPost_ret (zc0 rfl _ _ gR 42 #[u 0,u 1,u 2,u 3,u 4,u 5,.int .i64 (NN:Nat),.int .i64 (x:Nat),.slice eo es.length ec] (0,0) _ rfl (setRow_heap _ _ _ _ _ _ (Ok.row' (HKX.o.step HK2.o) HRR1.o)) Tryz.underlying42 rfl infGr) rfl ?_
 refine ⟨⟨u,eo,ec,rfl,HU.o,?_⟩,zd0 ((HK1.o.step HKX.o).step HK2.o) HG.o.1 _⟩
 refine zb4 (za1 HES.o (HKX.o.step HK2.o)) fun b hb=>setRow_other _ _ _ _ ?_
 intro e9
 obtain ⟨cg,fg,hgg⟩:=zf9 HES.o b hb
 rw [e9,HRR1.o] at hgg
 injection hgg with hgg
 injection hgg with _ hgg
 exact absurd hgg (by decide)
end
end Go.Proofs.YtbneneijdgcccaaGreatDoor
