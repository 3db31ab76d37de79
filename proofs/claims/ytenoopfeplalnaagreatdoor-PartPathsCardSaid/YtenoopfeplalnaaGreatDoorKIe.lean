import Derived.Stop.Asserts
import Derived.RowKitTokens
import Derived.Test.YtenoopfeplalnaaGreatDoorKIb
set_option maxHeartbeats 8000000
set_option linter.all false
namespace Go.Proofs.YtenoopfeplalnaaGreatDoor
section
open Go.RowKit Go.Maps
theorem lix (A:Value) (hA:A=.agg #[.int .i64 190,.func (.func 110) #[] #[],.int .i64 191,.func (.func 112) #[] #[],.int .i64 192,.func (.func 113) #[] #[],.int .i64 193,.func (.func 114) #[] #[],.int .i64 194,.func (.func 115) #[] #[],.int .i64 195,.func (.func 116) #[] #[],.int .i64 196,.func (.func 117) #[] #[],.int .i64 197,.func (.func 119) #[] #[],.int .i64 198,.func (.func 120) #[] #[]]) (w:World):Sem.run Tryz.prog (Instr.index 190 A (.int .i64 0)) w=.ok (.agg #[.int .i64 190,.func (.func 110) #[] #[]]) w/\Sem.run Tryz.prog (Instr.index 190 A (.int .i64 1)) w=.ok (.agg #[.int .i64 191,.func (.func 112) #[] #[]]) w/\Sem.run Tryz.prog (Instr.index 190 A (.int .i64 2)) w=.ok (.agg #[.int .i64 192,.func (.func 113) #[] #[]]) w/\Sem.run Tryz.prog (Instr.index 190 A (.int .i64 3)) w=.ok (.agg #[.int .i64 193,.func (.func 114) #[] #[]]) w/\Sem.run Tryz.prog (Instr.index 190 A (.int .i64 4)) w=.ok (.agg #[.int .i64 194,.func (.func 115) #[] #[]]) w/\Sem.run Tryz.prog (Instr.index 190 A (.int .i64 5)) w=.ok (.agg #[.int .i64 195,.func (.func 116) #[] #[]]) w/\Sem.run Tryz.prog (Instr.index 190 A (.int .i64 6)) w=.ok (.agg #[.int .i64 196,.func (.func 117) #[] #[]]) w/\Sem.run Tryz.prog (Instr.index 190 A (.int .i64 7)) w=.ok (.agg #[.int .i64 197,.func (.func 119) #[] #[]]) w/\Sem.run Tryz.prog (Instr.index 190 A (.int .i64 8)) w=.ok (.agg #[.int .i64 198,.func (.func 120) #[] #[]]) w:=by
 subst hA
 refine ⟨?_,?_,?_,?_,?_,?_,?_,?_,?_⟩<;>kernel_rfl
theorem infL1:(Tryz.prog.info? 189).map (·.size)=some 2:=by kernel_rfl
theorem zk2 (w:World) (cs:Array Value):∃ (X:World) (g:Nat),((w.alloc (Obj.cells #[.int .i64 0,.nilFunc] 189)).setRow w.heap.size cs=X/\w.heap.size=g)/\Hid (Ok w X)/\Hid (X.heap[g]?=some (.cells cs 189 (0,0))/\g<X.heap.size) :=
 ⟨_,_,⟨rfl,rfl⟩,ze4 ((Ok.refl w).alloc _) (Nat.le_refl _) _,setRow_heap _ _ _ _ _ _ (za4 _ _),za2 (setRow_heap _ _ _ _ _ _ (za4 _ _))⟩
def limB (c:Nat->Int) (ts:List Int):Nat->Bool
 | 0=>decide (0<=c 0)&&decide (c 0<=3)
 | 1=>decide (0<=c 1)&&decide (c 1<=3)
 | 2=>decide (1<=c 2)&&decide (c 2<=6)
 | 3=>decide (0<=c 3)&&decide (c 3<=6)
 | 4=>decide (0<=c 4)&&decide (c 4<=3)
 | 5=>decide (0<=c 5)&&decide (c 5<=3)
 | 6=>decide (ts.length<=6)&&risesB ts
 | 7=>decide (0<=c 7)&&decide (c 7<=5000)
 | 8=>decide (0<=c 8)&&decide (c 8<=4)
 | _=>true
def refuse (c:Nat->Int) (ts:List Int):Int:=match (List.range 9).find? (fun k => !limB c ts k) with
 | some k=>190+(k:Int)
 | none=>0
theorem zg1 {c:Nat->Int} {ts:List Int} {k:Nat} (hk:k<9) (hl:∀ j,j<k->limB c ts j=true) (h:limB c ts k=false):refuse c ts=190+(k:Int):=by
 have e:(List.range 9).find? (fun k => !limB c ts k)=some k:=by
  rw [List.find?_range_eq_some]
  exact ⟨by rw [h];rfl,List.mem_range.2 hk,fun j hj=>by rw [hl j hj];rfl⟩
 unfold refuse
 rw [e]
theorem zg2 {c:Nat->Int} {ts:List Int} {k:Nat} (hl:∀ j,j<k->limB c ts j=true) (h:limB c ts k=true):∀ j,j<k+1->limB c ts j=true:=fun j hj=>by
 by_cases e:j=k
 ·rw [e];exact h
 ·exact hl j (by omega)
theorem yc1 {c:Nat->Int} {ts:List Int} (hl:∀ j,j<9->limB c ts j=true):refuse c ts=0:=by
 have e:(List.range 9).find? (fun k => !limB c ts k)=none:=by
  rw [List.find?_eq_none]
  intro j hj
  rw [hl j (List.mem_range.1 hj)]
  decide
 unfold refuse
 rw [e]
theorem zn6 {c:Nat->Int} {ts:List Int} (h:refuse c ts=0) {k:Nat} (hk:k<9):limB c ts k=true:=by
 unfold refuse at h
 cases hf:(List.range 9).find? (fun k => !limB c ts k) with
 | none =>
  have h1:=List.find?_eq_none.1 hf k (List.mem_range.2 hk)
  cases hb:limB c ts k with
  | true=>rfl
  | false=>rw [hb] at h1;exact absurd rfl h1
 | some k=>rw [hf] at h;have h1:190+(k:Int)=0:=h;omega
set_option maxRecDepth 100000 in
theorem zJ4 (c:Nat->Int) (ts:List Int) (tz:Option Addr) (tc:Nat) (w:World) (h:SL w 1 (.slice tz ts.length tc) ts.length (ilL ts)):Calls Tryz.prog 46 #[.agg #[.int .i64 (c 0),.int .i64 (c 1),.int .i64 (c 2),.int .i64 (c 3),.int .i64 (c 4),.int .i64 (c 5),.slice tz ts.length tc,.int .i64 (c 7),.int .i64 (c 8)]] w fun e w'=>e=.returned (.int .i64 (refuse c ts))/\Ok w w':=by
 have HL0:Hid (∀ Y,Ok w Y->Calls Tryz.prog 110 #[.agg #[.int .i64 (c 0),.int .i64 (c 1),.int .i64 (c 2),.int .i64 (c 3),.int .i64 (c 4),.int .i64 (c 5),.slice tz ts.length tc,.int .i64 (c 7),.int .i64 (c 8)]] Y fun e w'=>e=.returned (.bool (limB c ts 0))/\Ok Y w'):=fun Y hY=>yb2 c tz ts.length tc Y
 have HL1:Hid (∀ Y,Ok w Y->Calls Tryz.prog 112 #[.agg #[.int .i64 (c 0),.int .i64 (c 1),.int .i64 (c 2),.int .i64 (c 3),.int .i64 (c 4),.int .i64 (c 5),.slice tz ts.length tc,.int .i64 (c 7),.int .i64 (c 8)]] Y fun e w'=>e=.returned (.bool (limB c ts 1))/\Ok Y w'):=fun Y hY=>yb3 c tz ts.length tc Y
 have HL2:Hid (∀ Y,Ok w Y->Calls Tryz.prog 113 #[.agg #[.int .i64 (c 0),.int .i64 (c 1),.int .i64 (c 2),.int .i64 (c 3),.int .i64 (c 4),.int .i64 (c 5),.slice tz ts.length tc,.int .i64 (c 7),.int .i64 (c 8)]] Y fun e w'=>e=.returned (.bool (limB c ts 2))/\Ok Y w'):=fun Y hY=>yb4 c tz ts.length tc Y
 have HL3:Hid (∀ Y,Ok w Y->Calls Tryz.prog 114 #[.agg #[.int .i64 (c 0),.int .i64 (c 1),.int .i64 (c 2),.int .i64 (c 3),.int .i64 (c 4),.int .i64 (c 5),.slice tz ts.length tc,.int .i64 (c 7),.int .i64 (c 8)]] Y fun e w'=>e=.returned (.bool (limB c ts 3))/\Ok Y w'):=fun Y hY=>yb5 c tz ts.length tc Y
 have HL4:Hid (∀ Y,Ok w Y->Calls Tryz.prog 115 #[.agg #[.int .i64 (c 0),.int .i64 (c 1),.int .i64 (c 2),.int .i64 (c 3),.int .i64 (c 4),.int .i64 (c 5),.slice tz ts.length tc,.int .i64 (c 7),.int .i64 (c 8)]] Y fun e w'=>e=.returned (.bool (limB c ts 4))/\Ok Y w'):=fun Y hY=>yb6 c tz ts.length tc Y
 have HL5:Hid (∀ Y,Ok w Y->Calls Tryz.prog 116 #[.agg #[.int .i64 (c 0),.int .i64 (c 1),.int .i64 (c 2),.int .i64 (c 3),.int .i64 (c 4),.int .i64 (c 5),.slice tz ts.length tc,.int .i64 (c 7),.int .i64 (c 8)]] Y fun e w'=>e=.returned (.bool (limB c ts 5))/\Ok Y w'):=fun Y hY=>yb7 c tz ts.length tc Y
 have HL6:Hid (∀ Y,Ok w Y->Calls Tryz.prog 117 #[.agg #[.int .i64 (c 0),.int .i64 (c 1),.int .i64 (c 2),.int .i64 (c 3),.int .i64 (c 4),.int .i64 (c 5),.slice tz ts.length tc,.int .i64 (c 7),.int .i64 (c 8)]] Y fun e w'=>e=.returned (.bool (limB c ts 6))/\Ok Y w'):=fun Y hY=>yc0 c ts tz tc Y (h.below hY)
 have HL7:Hid (∀ Y,Ok w Y->Calls Tryz.prog 119 #[.agg #[.int .i64 (c 0),.int .i64 (c 1),.int .i64 (c 2),.int .i64 (c 3),.int .i64 (c 4),.int .i64 (c 5),.slice tz ts.length tc,.int .i64 (c 7),.int .i64 (c 8)]] Y fun e w'=>e=.returned (.bool (limB c ts 7))/\Ok Y w'):=fun Y hY=>yb8 c tz ts.length tc Y
 have HL8:Hid (∀ Y,Ok w Y->Calls Tryz.prog 120 #[.agg #[.int .i64 (c 0),.int .i64 (c 1),.int .i64 (c 2),.int .i64 (c 3),.int .i64 (c 4),.int .i64 (c 5),.slice tz ts.length tc,.int .i64 (c 7),.int .i64 (c 8)]] Y fun e w'=>e=.returned (.bool (limB c ts 8))/\Ok Y w'):=fun Y hY=>yb9 c tz ts.length tc Y
 clear h
 obtain ⟨N,hN⟩:∃ z,z=ts.length:=⟨_,rfl⟩
 rw [<-hN] at HL0 HL1 HL2 HL3 HL4 HL5 HL6 HL7 HL8
 rw [<-hN]
 clear hN
 go_enter Tryz.func46,Tryz.ntmps46
 go_wp2_with fail
 refine (zS8 _).mono ?_
 rintro e W0 ⟨rfl,hk0⟩
 have HK:Hid (Ok w W0):=((Ok.refl w).alloc _).step hk0
 obtain ⟨g1,hg1⟩:∃ z,z=w.heap.size:=⟨_,rfl⟩
 have HC0:Hid (W0.heap[g1]?=some (.cells #[.int .i64 (c 0),.int .i64 (c 1),.int .i64 (c 2),.int .i64 (c 3),.int .i64 (c 4),.int .i64 (c 5),.slice tz N tc,.int .i64 (c 7),.int .i64 (c 8)] 24 (0,0))):=Ok.row' hk0 (by rw [hg1];exact za4 _ _)
 rw [<-hg1]
 clear hg1 hk0
 go_wp2_with fail
 go_loopw [6] (fun t6 wr=>∃ k:Nat,t6=.int .i64 (k:Nat)/\k<=9/\Hid (Ok W0 wr/\∀ j,j<k->limB c ts j=true)) (fun t6 _=>((9:Int)-intOf t6).toNat)
 case atStart=>exact ⟨0,rfl,by omega,Ok.refl _,fun j hj=>absurd hj (Nat.not_lt_zero _)⟩
 case round =>
  obtain ⟨k,rfl,hk,HR⟩:=hrel
  have HC:Hid _:=Ok.row' HR.out.1 HC0.out
  have HKW:Hid (Ok w wr):=HK.out.step HR.out.1
  have HE:Hid (k<=9):=hk
  match k,hk with
  | 0,_ =>
   have ix:=(lix _ rfl wr).1
   go_wp2_with (first | (refine za9 rfl 189 _ _ rfl wr.heap.size 189 #[.int .i64 0,.nilFunc] #[.int .i64 190,.func (.func 110) #[] #[]] (by rfl) (by rfl) (za4 _ _) infL1 rfl (by simp [Value.oneCell']) ?_;obtain ⟨X,gL,hX,HKX,HKL⟩:=zk2 wr #[.int .i64 190,.func (.func 110) #[] #[]];rw [hX.1,hX.2];clear hX;obtain ⟨q0,q1,qf0,qf1⟩:=zd3 HKL.out.1;have lgl:=HKL.out.2;obtain ⟨p0,p1,p2,p3,p4,p5,p6,p7,p8,lgp⟩:=row9 (Ok.row' HKX.out HC.out)) | fail)
   refine (HL0.out _ (HKW.out.step HKX.out)).mono ?_
   rintro e w2 ⟨rfl,hk2⟩
   have HK2:Hid (Ok wr w2):=HKX.out.step hk2
   have r1:=hk2.cell (p:=⟨gL,0,none⟩) lgl q0
   have l2:=Nat.lt_of_lt_of_le lgl hk2.le
   clear hk2 p0 p1 p2 p3 p4 p5 p6 p7 p8 lgp ix q0 q1 qf0 qf1
   cases hb:limB c ts 0 with
   | true =>
    have HB:Hid (limB c ts 0=true):=hb
    clear hb
    go_wp2_with fail
    exact ⟨⟨1,rfl,by omega,HR.out.1.step HK2.out,zg2 HR.out.2 HB.out⟩,by decide⟩
   | false =>
    have HB:Hid (refuse c ts=190):=zg1 (by decide) HR.out.2 hb
    clear hb
    go_wp2_with fail
    go_ret
    exact ⟨by rw [HB.out];rfl,HKW.out.step HK2.out⟩
  | 1,_ =>
   have ix:=(lix _ rfl wr).2.1
   go_wp2_with (first | (refine za9 rfl 189 _ _ rfl wr.heap.size 189 #[.int .i64 0,.nilFunc] #[.int .i64 191,.func (.func 112) #[] #[]] (by rfl) (by rfl) (za4 _ _) infL1 rfl (by simp [Value.oneCell']) ?_;obtain ⟨X,gL,hX,HKX,HKL⟩:=zk2 wr #[.int .i64 191,.func (.func 112) #[] #[]];rw [hX.1,hX.2];clear hX;obtain ⟨q0,q1,qf0,qf1⟩:=zd3 HKL.out.1;have lgl:=HKL.out.2;obtain ⟨p0,p1,p2,p3,p4,p5,p6,p7,p8,lgp⟩:=row9 (Ok.row' HKX.out HC.out)) | fail)
   refine (HL1.out _ (HKW.out.step HKX.out)).mono ?_
   rintro e w2 ⟨rfl,hk2⟩
   have HK2:Hid (Ok wr w2):=HKX.out.step hk2
   have r1:=hk2.cell (p:=⟨gL,0,none⟩) lgl q0
   have l2:=Nat.lt_of_lt_of_le lgl hk2.le
   clear hk2 p0 p1 p2 p3 p4 p5 p6 p7 p8 lgp ix q0 q1 qf0 qf1
   cases hb:limB c ts 1 with
   | true =>
    have HB:Hid (limB c ts 1=true):=hb
    clear hb
    go_wp2_with fail
    exact ⟨⟨2,rfl,by omega,HR.out.1.step HK2.out,zg2 HR.out.2 HB.out⟩,by decide⟩
   | false =>
    have HB:Hid (refuse c ts=191):=zg1 (by decide) HR.out.2 hb
    clear hb
    go_wp2_with fail
    go_ret
    exact ⟨by rw [HB.out];rfl,HKW.out.step HK2.out⟩
  | 2,_ =>
   have ix:=(lix _ rfl wr).2.2.1
   go_wp2_with (first | (refine za9 rfl 189 _ _ rfl wr.heap.size 189 #[.int .i64 0,.nilFunc] #[.int .i64 192,.func (.func 113) #[] #[]] (by rfl) (by rfl) (za4 _ _) infL1 rfl (by simp [Value.oneCell']) ?_;obtain ⟨X,gL,hX,HKX,HKL⟩:=zk2 wr #[.int .i64 192,.func (.func 113) #[] #[]];rw [hX.1,hX.2];clear hX;obtain ⟨q0,q1,qf0,qf1⟩:=zd3 HKL.out.1;have lgl:=HKL.out.2;obtain ⟨p0,p1,p2,p3,p4,p5,p6,p7,p8,lgp⟩:=row9 (Ok.row' HKX.out HC.out)) | fail)
   refine (HL2.out _ (HKW.out.step HKX.out)).mono ?_
   rintro e w2 ⟨rfl,hk2⟩
   have HK2:Hid (Ok wr w2):=HKX.out.step hk2
   have r1:=hk2.cell (p:=⟨gL,0,none⟩) lgl q0
   have l2:=Nat.lt_of_lt_of_le lgl hk2.le
   clear hk2 p0 p1 p2 p3 p4 p5 p6 p7 p8 lgp ix q0 q1 qf0 qf1
   cases hb:limB c ts 2 with
   | true =>
    have HB:Hid (limB c ts 2=true):=hb
    clear hb
    go_wp2_with fail
    exact ⟨⟨3,rfl,by omega,HR.out.1.step HK2.out,zg2 HR.out.2 HB.out⟩,by decide⟩
   | false =>
    have HB:Hid (refuse c ts=192):=zg1 (by decide) HR.out.2 hb
    clear hb
    go_wp2_with fail
    go_ret
    exact ⟨by rw [HB.out];rfl,HKW.out.step HK2.out⟩
  | 3,_ =>
   have ix:=(lix _ rfl wr).2.2.2.1
   go_wp2_with (first | (refine za9 rfl 189 _ _ rfl wr.heap.size 189 #[.int .i64 0,.nilFunc] #[.int .i64 193,.func (.func 114) #[] #[]] (by rfl) (by rfl) (za4 _ _) infL1 rfl (by simp [Value.oneCell']) ?_;obtain ⟨X,gL,hX,HKX,HKL⟩:=zk2 wr #[.int .i64 193,.func (.func 114) #[] #[]];rw [hX.1,hX.2];clear hX;obtain ⟨q0,q1,qf0,qf1⟩:=zd3 HKL.out.1;have lgl:=HKL.out.2;obtain ⟨p0,p1,p2,p3,p4,p5,p6,p7,p8,lgp⟩:=row9 (Ok.row' HKX.out HC.out)) | fail)
   refine (HL3.out _ (HKW.out.step HKX.out)).mono ?_
   rintro e w2 ⟨rfl,hk2⟩
   have HK2:Hid (Ok wr w2):=HKX.out.step hk2
   have r1:=hk2.cell (p:=⟨gL,0,none⟩) lgl q0
   have l2:=Nat.lt_of_lt_of_le lgl hk2.le
   clear hk2 p0 p1 p2 p3 p4 p5 p6 p7 p8 lgp ix q0 q1 qf0 qf1
   cases hb:limB c ts 3 with
   | true =>
    have HB:Hid (limB c ts 3=true):=hb
    clear hb
    go_wp2_with fail
    exact ⟨⟨4,rfl,by omega,HR.out.1.step HK2.out,zg2 HR.out.2 HB.out⟩,by decide⟩
   | false =>
    have HB:Hid (refuse c ts=193):=zg1 (by decide) HR.out.2 hb
    clear hb
    go_wp2_with fail
    go_ret
    exact ⟨by rw [HB.out];rfl,HKW.out.step HK2.out⟩
  | 4,_ =>
   have ix:=(lix _ rfl wr).2.2.2.2.1
   go_wp2_with (first | (refine za9 rfl 189 _ _ rfl wr.heap.size 189 #[.int .i64 0,.nilFunc] #[.int .i64 194,.func (.func 115) #[] #[]] (by rfl) (by rfl) (za4 _ _) infL1 rfl (by simp [Value.oneCell']) ?_;obtain ⟨X,gL,hX,HKX,HKL⟩:=zk2 wr #[.int .i64 194,.func (.func 115) #[] #[]];rw [hX.1,hX.2];clear hX;obtain ⟨q0,q1,qf0,qf1⟩:=zd3 HKL.out.1;have lgl:=HKL.out.2;obtain ⟨p0,p1,p2,p3,p4,p5,p6,p7,p8,lgp⟩:=row9 (Ok.row' HKX.out HC.out)) | fail)
   refine (HL4.out _ (HKW.out.step HKX.out)).mono ?_
   rintro e w2 ⟨rfl,hk2⟩
   have HK2:Hid (Ok wr w2):=HKX.out.step hk2
   have r1:=hk2.cell (p:=⟨gL,0,none⟩) lgl q0
   have l2:=Nat.lt_of_lt_of_le lgl hk2.le
   clear hk2 p0 p1 p2 p3 p4 p5 p6 p7 p8 lgp ix q0 q1 qf0 qf1
   cases hb:limB c ts 4 with
   | true =>
    have HB:Hid (limB c ts 4=true):=hb
    clear hb
    go_wp2_with fail
    exact ⟨⟨5,rfl,by omega,HR.out.1.step HK2.out,zg2 HR.out.2 HB.out⟩,by decide⟩
   | false =>
    have HB:Hid (refuse c ts=194):=zg1 (by decide) HR.out.2 hb
    clear hb
    go_wp2_with fail
    go_ret
    exact ⟨by rw [HB.out];rfl,HKW.out.step HK2.out⟩
  | 5,_ =>
   have ix:=(lix _ rfl wr).2.2.2.2.2.1
   go_wp2_with (first | (refine za9 rfl 189 _ _ rfl wr.heap.size 189 #[.int .i64 0,.nilFunc] #[.int .i64 195,.func (.func 116) #[] #[]] (by rfl) (by rfl) (za4 _ _) infL1 rfl (by simp [Value.oneCell']) ?_;obtain ⟨X,gL,hX,HKX,HKL⟩:=zk2 wr #[.int .i64 195,.func (.func 116) #[] #[]];rw [hX.1,hX.2];clear hX;obtain ⟨q0,q1,qf0,qf1⟩:=zd3 HKL.out.1;have lgl:=HKL.out.2;obtain ⟨p0,p1,p2,p3,p4,p5,p6,p7,p8,lgp⟩:=row9 (Ok.row' HKX.out HC.out)) | fail)
   refine (HL5.out _ (HKW.out.step HKX.out)).mono ?_
   rintro e w2 ⟨rfl,hk2⟩
   have HK2:Hid (Ok wr w2):=HKX.out.step hk2
   have r1:=hk2.cell (p:=⟨gL,0,none⟩) lgl q0
   have l2:=Nat.lt_of_lt_of_le lgl hk2.le
   clear hk2 p0 p1 p2 p3 p4 p5 p6 p7 p8 lgp ix q0 q1 qf0 qf1
   cases hb:limB c ts 5 with
   | true =>
    have HB:Hid (limB c ts 5=true):=hb
    clear hb
    go_wp2_with fail
    exact ⟨⟨6,rfl,by omega,HR.out.1.step HK2.out,zg2 HR.out.2 HB.out⟩,by decide⟩
   | false =>
    have HB:Hid (refuse c ts=195):=zg1 (by decide) HR.out.2 hb
    clear hb
    go_wp2_with fail
    go_ret
    exact ⟨by rw [HB.out];rfl,HKW.out.step HK2.out⟩
  | 6,_ =>
   have ix:=(lix _ rfl wr).2.2.2.2.2.2.1
   go_wp2_with (first | (refine za9 rfl 189 _ _ rfl wr.heap.size 189 #[.int .i64 0,.nilFunc] #[.int .i64 196,.func (.func 117) #[] #[]] (by rfl) (by rfl) (za4 _ _) infL1 rfl (by simp [Value.oneCell']) ?_;obtain ⟨X,gL,hX,HKX,HKL⟩:=zk2 wr #[.int .i64 196,.func (.func 117) #[] #[]];rw [hX.1,hX.2];clear hX;obtain ⟨q0,q1,qf0,qf1⟩:=zd3 HKL.out.1;have lgl:=HKL.out.2;obtain ⟨p0,p1,p2,p3,p4,p5,p6,p7,p8,lgp⟩:=row9 (Ok.row' HKX.out HC.out)) | fail)
   refine (HL6.out _ (HKW.out.step HKX.out)).mono ?_
   rintro e w2 ⟨rfl,hk2⟩
   have HK2:Hid (Ok wr w2):=HKX.out.step hk2
   have r1:=hk2.cell (p:=⟨gL,0,none⟩) lgl q0
   have l2:=Nat.lt_of_lt_of_le lgl hk2.le
   clear hk2 p0 p1 p2 p3 p4 p5 p6 p7 p8 lgp ix q0 q1 qf0 qf1
   cases hb:limB c ts 6 with
   | true =>
    have HB:Hid (limB c ts 6=true):=hb
    clear hb
    go_wp2_with fail
    exact ⟨⟨7,rfl,by omega,HR.out.1.step HK2.out,zg2 HR.out.2 HB.out⟩,by decide⟩
   | false =>
    have HB:Hid (refuse c ts=196):=zg1 (by decide) HR.out.2 hb
    clear hb
    go_wp2_with fail
    go_ret
    exact ⟨by rw [HB.out];rfl,HKW.out.step HK2.out⟩
  | 7,_ =>
   have ix:=(lix _ rfl wr).2.2.2.2.2.2.2.1
   go_wp2_with (first | (refine za9 rfl 189 _ _ rfl wr.heap.size 189 #[.int .i64 0,.nilFunc] #[.int .i64 197,.func (.func 119) #[] #[]] (by rfl) (by rfl) (za4 _ _) infL1 rfl (by simp [Value.oneCell']) ?_;obtain ⟨X,gL,hX,HKX,HKL⟩:=zk2 wr #[.int .i64 197,.func (.func 119) #[] #[]];rw [hX.1,hX.2];clear hX;obtain ⟨q0,q1,qf0,qf1⟩:=zd3 HKL.out.1;have lgl:=HKL.out.2;obtain ⟨p0,p1,p2,p3,p4,p5,p6,p7,p8,lgp⟩:=row9 (Ok.row' HKX.out HC.out)) | fail)
   refine (HL7.out _ (HKW.out.step HKX.out)).mono ?_
   rintro e w2 ⟨rfl,hk2⟩
   have HK2:Hid (Ok wr w2):=HKX.out.step hk2
   have r1:=hk2.cell (p:=⟨gL,0,none⟩) lgl q0
   have l2:=Nat.lt_of_lt_of_le lgl hk2.le
   clear hk2 p0 p1 p2 p3 p4 p5 p6 p7 p8 lgp ix q0 q1 qf0 qf1
   cases hb:limB c ts 7 with
   | true =>
    have HB:Hid (limB c ts 7=true):=hb
    clear hb
    go_wp2_with fail
    exact ⟨⟨8,rfl,by omega,HR.out.1.step HK2.out,zg2 HR.out.2 HB.out⟩,by decide⟩
   | false =>
    have HB:Hid (refuse c ts=197):=zg1 (by decide) HR.out.2 hb
    clear hb
    go_wp2_with fail
    go_ret
    exact ⟨by rw [HB.out];rfl,HKW.out.step HK2.out⟩
  | 8,_ =>
   have ix:=(lix _ rfl wr).2.2.2.2.2.2.2.2
   go_wp2_with (first | (refine za9 rfl 189 _ _ rfl wr.heap.size 189 #[.int .i64 0,.nilFunc] #[.int .i64 198,.func (.func 120) #[] #[]] (by rfl) (by rfl) (za4 _ _) infL1 rfl (by simp [Value.oneCell']) ?_;obtain ⟨X,gL,hX,HKX,HKL⟩:=zk2 wr #[.int .i64 198,.func (.func 120) #[] #[]];rw [hX.1,hX.2];clear hX;obtain ⟨q0,q1,qf0,qf1⟩:=zd3 HKL.out.1;have lgl:=HKL.out.2;obtain ⟨p0,p1,p2,p3,p4,p5,p6,p7,p8,lgp⟩:=row9 (Ok.row' HKX.out HC.out)) | fail)
   refine (HL8.out _ (HKW.out.step HKX.out)).mono ?_
   rintro e w2 ⟨rfl,hk2⟩
   have HK2:Hid (Ok wr w2):=HKX.out.step hk2
   have r1:=hk2.cell (p:=⟨gL,0,none⟩) lgl q0
   have l2:=Nat.lt_of_lt_of_le lgl hk2.le
   clear hk2 p0 p1 p2 p3 p4 p5 p6 p7 p8 lgp ix q0 q1 qf0 qf1
   cases hb:limB c ts 8 with
   | true =>
    have HB:Hid (limB c ts 8=true):=hb
    clear hb
    go_wp2_with fail
    exact ⟨⟨9,rfl,by omega,HR.out.1.step HK2.out,zg2 HR.out.2 HB.out⟩,by decide⟩
   | false =>
    have HB:Hid (refuse c ts=198):=zg1 (by decide) HR.out.2 hb
    clear hb
    go_wp2_with fail
    go_ret
    exact ⟨by rw [HB.out];rfl,HKW.out.step HK2.out⟩
  | 9,_ =>
   go_wp2_with fail
   go_ret
   exact ⟨by rw [yc1 HR.out.2];rfl,HKW.out⟩
  | k+10,h=>exact absurd h (by omega)
end
section
open Go.RowKit Go.Maps Go.Extern.Stop Go.Stop Go.Extern
theorem zi9 {W:World} {p:Addr} {v:Value} (h:W.cell? p=some v):p.block<W.heap.size:=by
 rcases Nat.lt_or_ge p.block W.heap.size with hh | hh
 ·exact hh
 ·rw [World.cell?,Array.getElem?_eq_none hh] at h;cases h
def CkIs (w:World) (r:Int) (e:Ending) (w':World):Prop:=((r=0/\e=.returned .nilIface)\/(r≠0/\∃ b:Nat,e=.returned (.iface 78 (.pointer (some ⟨b,0,none⟩)))/\w.heap.size<=b/\b<w'.heap.size/\w'.cell? ⟨b,0,none⟩=some (.int .i64 r)))/\Ok w w'
set_option maxRecDepth 100000 in
theorem yc2 (c:Nat->Int) (ts:List Int) (tz:Option Addr) (tc:Nat) (w:World) (h:SL w 1 (.slice tz ts.length tc) ts.length (ilL ts)) (et:TypeId) (eu:Value) (hE:w.cell? ⟨1,0,none⟩=some (.iface et eu)):Calls Tryz.prog 21 #[.agg #[.int .i64 (c 0),.int .i64 (c 1),.int .i64 (c 2),.int .i64 (c 3),.int .i64 (c 4),.int .i64 (c 5),.slice tz ts.length tc,.int .i64 (c 7),.int .i64 (c 8)]] w fun e w'=>CkIs w (refuse c ts) e w':=by
 have HM:Hid (∀ Y,Ok w Y->Calls Tryz.prog 46 #[.agg #[.int .i64 (c 0),.int .i64 (c 1),.int .i64 (c 2),.int .i64 (c 3),.int .i64 (c 4),.int .i64 (c 5),.slice tz ts.length tc,.int .i64 (c 7),.int .i64 (c 8)]] Y fun e w'=>e=.returned (.int .i64 (refuse c ts))/\Ok Y w'):=fun Y hY=>zJ4 c ts tz tc Y (h.below hY)
 have HE:=hid hE
 have HG:Hid (1<w.heap.size):=zi9 hE
 clear h hE
 obtain ⟨N,hN⟩:∃ z,z=ts.length:=⟨_,rfl⟩
 rw [<-hN] at HM
 rw [<-hN]
 clear hN
 obtain ⟨r,hr⟩:∃ z,z=refuse c ts:=⟨_,rfl⟩
 rw [<-hr] at HM
 rw [<-hr]
 clear hr
 by_cases h0:r=0
 ·rw [h0] at HM ⊢
  go_enter Tryz.func21,Tryz.ntmps21
  go_wp2_with fail
  refine (HM.out _ ((Ok.refl w).alloc _)).mono ?_
  rintro e w1 ⟨rfl,hk⟩
  have HK:Hid (Ok w w1):=((Ok.refl w).alloc _).step hk
  clear hk
  go_wp2_with fail
  go_ret
  exact ⟨Or.inl ⟨rfl,rfl⟩,HK.out⟩
 ·have H0:Hid (¬r=0):=h0
  have hb:(r != 0)=true:=bne_iff_ne.2 h0
  clear h0
  go_enter Tryz.func21,Tryz.ntmps21
  go_wp2_with fail
  refine (HM.out _ ((Ok.refl w).alloc _)).mono ?_
  rintro e w1 ⟨rfl,hk⟩
  have HK:Hid (Ok w w1):=((Ok.refl w).alloc _).step hk
  have hE1:=HK.out.cell (p:=⟨1,0,none⟩) HG.out HE.out
  clear hk
  go_wp2_with fail
  go_ret
  exact ⟨Or.inr ⟨H0.out,w1.heap.size,rfl,HK.out.le,za2 (za4 _ _),(cell_of_row _ _ 0 _ _ _ (za4 _ _)).trans rfl⟩,HK.out.alloc _⟩
set_option maxRecDepth 100000 in
theorem yB7 (t:Value) (w:World):Calls Tryz.prog 20 #[.nilIface,t] w fun e w'=>e=.returned (.bool false)/\w'=w:=by
 go_enter Tryz.func20,Tryz.ntmps20
 go_wp2
 go_ret
 exact ⟨rfl,rfl⟩
theorem zJ5 (t:Addr) (w:World):(callFunc 42 #[.iface 83 (.pointer (some t))]).run Tryz.prog w=.ok (.value (.agg #[.pointer (some ⟨8,83,none⟩),.pointer (some ⟨w.heap.size,0,none⟩),.int .u64 150])) (w.alloc (.cells #[.pointer (some t)] 83)):=by kernel_rfl
theorem zt2 (t:Addr) (w:World):(callFunc 42 #[.iface 78 (.pointer (some t))]).run Tryz.prog w=.ok (.value (.agg #[.pointer (some ⟨8,78,none⟩),.pointer (some ⟨w.heap.size,0,none⟩),.int .u64 150])) (w.alloc (.cells #[.pointer (some t)] 78)):=by kernel_rfl
theorem yx9 (a:Addr) (w:World):(callFunc 43 #[.agg #[.pointer (some ⟨8,83,none⟩),.pointer (some a),.int .u64 150]]).run Tryz.prog w=.ok (.value (.iface 174 (.agg #[.pointer (some ⟨8,83,none⟩)]))) w:=by kernel_rfl
theorem yn5 (w:World):(callFunc 181 #[.pointer (some ⟨8,83,none⟩)]).run Tryz.prog w=.ok (.value (.int .u8 22)) w:=by kernel_rfl
theorem yn6 (w:World):(callFunc 181 #[.pointer (some ⟨8,78,none⟩)]).run Tryz.prog w=.ok (.value (.int .u8 22)) w:=by kernel_rfl
theorem yy0 (w:World):(callFunc 193 #[.agg #[.pointer (some ⟨8,83,none⟩)]]).run Tryz.prog w=.ok (.value (.iface 174 (.agg #[.pointer (some ⟨8,78,none⟩)]))) w:=by kernel_rfl
theorem yy1 (w:World):(callFunc 194 #[.agg #[.pointer (some ⟨8,78,none⟩)],.iface 174 (.agg #[.pointer (some ⟨8,81,none⟩)])]).run Tryz.prog w=.ok (.value (.bool true)) w:=by kernel_rfl
theorem zE6 (v:Value) (w:World):(callFunc 78 #[.iface 78 v]).run Tryz.prog w=.ok (.value (.iface 174 (.agg #[.pointer (some ⟨8,78,none⟩)]))) w:=by kernel_rfl
theorem zE7 (w:World):(callFunc 191 #[.agg #[.pointer (some ⟨8,78,none⟩)],.iface 174 (.agg #[.pointer (some ⟨8,78,none⟩)])]).run Tryz.prog w=.ok (.value (.bool true)) w:=by kernel_rfl
theorem yn7 (h:Value) (w:World):(Go.method 394 174 (.agg #[h]) "Kind").run Tryz.prog w=.ok (181,h) w:=by kernel_rfl
theorem yn8 (h:Value) (w:World):(Go.method 394 174 (.agg #[h]) "Elem").run Tryz.prog w=.ok (193,.agg #[h]) w:=by kernel_rfl
theorem yn9 (h:Value) (w:World):(Go.method 394 174 (.agg #[h]) "Implements").run Tryz.prog w=.ok (194,.agg #[h]) w:=by kernel_rfl
theorem zw9 (h:Value) (w:World):(Go.method 394 174 (.agg #[h]) "AssignableTo").run Tryz.prog w=.ok (191,.agg #[h]) w:=by kernel_rfl
theorem zE8 (a:Addr) (w:World):(ReflectliteValue.parts (.agg #[.pointer (some ⟨8,83,none⟩),.pointer (some a),.int .u64 150])).run Tryz.prog w=.ok (some (83,a,150)) w:=by kernel_rfl
theorem yc3 (a:Addr) (w:World):(ReflectliteValue.parts (.agg #[.pointer (some ⟨8,78,none⟩),.pointer (some a),.int .u64 150])).run Tryz.prog w=.ok (some (78,a,150)) w:=by kernel_rfl
theorem yc4 (a:Addr) (w:World):(ReflectliteValue.parts (.agg #[.pointer (some ⟨8,78,none⟩),.pointer (some a),.int .u64 406])).run Tryz.prog w=.ok (some (78,a,406)) w:=by kernel_rfl
theorem yo0 (w:World):(Rtype.elem? 83).run Tryz.prog w=.ok (some 78) w:=by kernel_rfl
theorem as_mk (p:Addr) (w:World):(ReflectliteValue.mk 78 p ReflectliteValue.flagAddr).run Tryz.prog w=.ok (.agg #[.pointer (some ⟨8,78,none⟩),.pointer (some p),.int .u64 406]) w:=by kernel_rfl
theorem yc5 (w:World):(Rtype.directlyAssignable 78 78).run Tryz.prog w=.ok true w:=by kernel_rfl
theorem yo1 (a p:Addr) (W:World) (ha:W.cell? a=some (.pointer (some p))):(callFunc 44 #[.agg #[.pointer (some ⟨8,83,none⟩),.pointer (some a),.int .u64 150]]).run Tryz.prog W=.ok (.value (.bool false)) W:=by
 rw [run_callFunc_extern (e:=ReflectliteValue.method (ReflectliteValue.valueError "reflectlite.Value.IsNil" 0) ReflectliteValue.isNil) Tryz.func44 (by kernel_rfl) (by kernel_rfl) (by kernel_rfl) (by kernel_rfl)]
 rw [show ReflectliteValue.method (ReflectliteValue.valueError "reflectlite.Value.IsNil" 0) ReflectliteValue.isNil #[.agg #[.pointer (some ⟨8,83,none⟩),.pointer (some a),.int .u64 150]]=(ReflectliteValue.parts (.agg #[.pointer (some ⟨8,83,none⟩),.pointer (some a),.int .u64 150]) >>= fun p=>_) from rfl]
 simp [zE8,ReflectliteValue.isNil,loadVar,isAgg,underlying,Tryz.underlying83,ha,Result.andThen]
theorem yo2 (a p:Addr) (W:World) (ha:W.cell? a=some (.pointer (some p))):(callFunc 79 #[.agg #[.pointer (some ⟨8,83,none⟩),.pointer (some a),.int .u64 150]]).run Tryz.prog W=.ok (.value (.agg #[.pointer (some ⟨8,78,none⟩),.pointer (some p),.int .u64 406])) W:=by
 rw [run_callFunc_extern (e:=ReflectliteValue.method (ReflectliteValue.valueError "reflectlite.Value.Elem" 0) ReflectliteValue.elem) Tryz.func79 (by kernel_rfl) (by kernel_rfl) (by kernel_rfl) (by kernel_rfl)]
 rw [show ReflectliteValue.method (ReflectliteValue.valueError "reflectlite.Value.Elem" 0) ReflectliteValue.elem #[.agg #[.pointer (some ⟨8,83,none⟩),.pointer (some a),.int .u64 150]]=(ReflectliteValue.parts (.agg #[.pointer (some ⟨8,83,none⟩),.pointer (some a),.int .u64 150]) >>= fun p=>_) from rfl]
 simp [zE8,ReflectliteValue.elem,loadVar,isAgg,underlying,Tryz.underlying83,ha,Result.andThen,yo0,as_mk]
theorem yB8 (t b e:Addr) (old:Value) (W:World) (hb:W.cell? b=some (.pointer (some e))) (ht:W.cell? t=some old) (hf:W.frozen? t=false):(callFunc 80 #[.agg #[.pointer (some ⟨8,78,none⟩),.pointer (some t),.int .u64 406],.agg #[.pointer (some ⟨8,78,none⟩),.pointer (some b),.int .u64 150]]).run Tryz.prog W=.ok (.value (.tuple #[])) (W.setCell t (.pointer (some e))):=by
 rw [run_callFunc_extern (e:=ReflectliteValue.set) Tryz.func80 (by kernel_rfl) (by kernel_rfl) (by kernel_rfl) (by kernel_rfl)]
 rw [show ReflectliteValue.set #[.agg #[.pointer (some ⟨8,78,none⟩),.pointer (some t),.int .u64 406],.agg #[.pointer (some ⟨8,78,none⟩),.pointer (some b),.int .u64 150]]=(ReflectliteValue.parts (.agg #[.pointer (some ⟨8,78,none⟩),.pointer (some t),.int .u64 406]) >>= fun p=>ReflectliteValue.parts (.agg #[.pointer (some ⟨8,78,none⟩),.pointer (some b),.int .u64 150]) >>= fun q=>_) from rfl]
 simp [yc3,yc4,Result.andThen,ReflectliteValue.flagAddr,loadVar,isAgg,underlying,Tryz.underlying78,hb,yc5,storeVar,Value.cells,storeCells,Addr.add]
 rw [run_store Tryz.prog W t _ _ (by rfl)]
 simp [ht,hf]
end
section
open Go.RowKit Go.Maps Go.Extern.Stop Go.Stop Go.Extern
set_option maxRecDepth 100000 in
theorem as_in (e:Addr) (g a:Nat) (old:Value) (w:World) (ha:w.cell? ⟨a,0,none⟩=some (.pointer (some ⟨g,0,none⟩))) (ht:w.cell? ⟨g,0,none⟩=some old) (hf:w.frozen? ⟨g,0,none⟩=false):Calls Tryz.prog 45 #[.iface 78 (.pointer (some e)),.iface 83 (.pointer (some ⟨g,0,none⟩)),.agg #[.pointer (some ⟨8,83,none⟩),.pointer (some ⟨a,0,none⟩),.int .u64 150],.iface 174 (.agg #[.pointer (some ⟨8,78,none⟩)])] w fun ev w'=>ev=.returned (.bool true)/\∃ w1,Ok w w1/\w'=w1.setCell ⟨g,0,none⟩ (.pointer (some e)):=by
 have f2:=zt2
 have f8:=zE6
 have f9:=zE7
 have m4:=zw9
 have hal:a<w.heap.size:=zi9 ha
 have hgl:g<w.heap.size:=zi9 ht
 have HX:Hid (∀ o1,Ok w (w.alloc o1)):=fun o1=>(Ok.refl w).alloc _
 have n2:=yo2 ⟨a,0,none⟩ ⟨g,0,none⟩ (w.alloc (.cells #[.pointer (some ⟨8,83,none⟩),.pointer (some ⟨a,0,none⟩),.int .u64 150] 120)) ((HX.out _).cell (p:=⟨a,0,none⟩) hal ha)
 have hw2:Ok w ((w.alloc (.cells #[.pointer (some ⟨8,83,none⟩),.pointer (some ⟨a,0,none⟩),.int .u64 150] 120)).alloc (.cells #[.pointer (some e)] 78)):=((Ok.refl w).alloc _).alloc _
 have HW2:Hid _:=hw2
 have n3:=yB8 ⟨g,0,none⟩ ⟨w.heap.size+1,0,none⟩ e old ((w.alloc (.cells #[.pointer (some ⟨8,83,none⟩),.pointer (some ⟨a,0,none⟩),.int .u64 150] 120)).alloc (.cells #[.pointer (some e)] 78)) (by rw [World.cell?_alloc_at _ _ _ _ (by simp)];rfl) (hw2.cell (p:=⟨g,0,none⟩) hgl ht) (by rw [World.frozen?_alloc_old _ _ _ (by simp;omega),World.frozen?_alloc_old _ _ _ (by simp;omega)];exact hf)
 clear hw2 ha ht hf hal hgl
 go_enter Tryz.func45,Tryz.ntmps45
 go_wp2_with fail
 refine wp_loop_rounds 1 ?_
 rw [rounds_succ]
 go_wp2_with fail
 go_ret
 exact ⟨rfl,_,HW2.out,rfl⟩
set_option maxRecDepth 100000 in
theorem yB9 (e:Addr) (g:Nat) (old:Value) (w:World) (hg:w.cell? ⟨0,0,none⟩=some (.iface 174 (.agg #[.pointer (some ⟨8,81,none⟩)]))) (ht:w.cell? ⟨g,0,none⟩=some old) (hf:w.frozen? ⟨g,0,none⟩=false):Calls Tryz.prog 20 #[.iface 78 (.pointer (some e)),.iface 83 (.pointer (some ⟨g,0,none⟩))] w fun ev w'=>ev=.returned (.bool true)/\∃ w1,Ok w w1/\w'=w1.setCell ⟨g,0,none⟩ (.pointer (some e)):=by
 have f1:=zJ5
 have f2:=zt2
 have f3:=yx9
 have f4:=yn5
 have f5:=yn6
 have f6:=yy0
 have f7:=yy1
 have f8:=zE6
 have f9:=zE7
 have m1:=yn7
 have m2:=yn8
 have m3:=yn9
 have m4:=zw9
 have hl:=zi9 hg
 have hgl:g<w.heap.size:=zi9 ht
 have n1:=fun W h=>yo1 ⟨w.heap.size,0,none⟩ ⟨g,0,none⟩ W h
 have HT:Hid (w.cell? ⟨g,0,none⟩=some old/\w.frozen? ⟨g,0,none⟩=false/\g<w.heap.size):=⟨ht,hf,hgl⟩
 have hgg:¬g=w.heap.size:=by omega
 go_enter Tryz.func20,Tryz.ntmps20
 go_wp2_with fail
 have hk:Ok w ((w.alloc (.cells #[.pointer (some ⟨g,0,none⟩)] 83)).alloc (.cells #[.pointer (some ⟨8,83,none⟩),.pointer (some ⟨w.heap.size,0,none⟩),.int .u64 150] 120)):=((Ok.refl w).alloc _).alloc _
 have HK:Hid _:=hk
 refine (as_in e g w.heap.size old _ ?_ (hk.cell (p:=⟨g,0,none⟩) HT.out.2.2 HT.out.1) ?_).mono ?_
 ·rw [World.cell?_alloc_lt _ _ _ (by simp),World.cell?_alloc_at _ _ _ _ rfl];rfl
 ·rw [World.frozen?_alloc_old _ _ _ (by have:=HT.out.2.2;simp;omega),World.frozen?_alloc_old _ _ _ (by have:=HT.out.2.2;simp;omega)];exact HT.out.2.1
 rintro ev w' ⟨rfl,w1,hk1,rfl⟩
 have HK1:Hid (Ok w w1):=hk.step hk1
 clear f1 f2 f3 f4 f5 f6 f7 f8 f9 m1 m2 m3 m4 n1 hk hk1 hg ht hf
 go_wp2_with fail
 go_ret
 exact ⟨rfl,w1,HK1.out,rfl⟩
end
end Go.Proofs.YtenoopfeplalnaaGreatDoor
