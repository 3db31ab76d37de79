import Derived.Test.YtgobgdljckamkaaGreatDoorKPg
set_option linter.unusedVariables false
set_option linter.unusedSimpArgs false
set_option linter.unnecessarySimpa false
namespace Go.Proofs.YtgobgdljckamkaaGreatDoor
open Go.RowKit
def deF (P:RP) (a:Nat) (bad:Int):List Nd×Nat×Int :=
 let s:=naT P (a+1) bad
 let a1:=naA P (a+1) bad
 let b1:=naB P (a+1) bad
 if isS P a bad [97,114,114,97,121] then
  let a2:=tkA P a1 b1 [91]
  let b2:=tkB P a1 b1 [91]
  let a3:=if numS P a2 b2 then a2+1 else a2
  let b3:=if numS P a2 b2 then b2 else failS P a2 b2
  let a4:=tkA P a3 b3 [93]
  let b4:=tkB P a3 b3 [93]
  (ndS ⟨0,1,s,if numS P a2 b2 then nuS P a2 else 0,0,(plS P a:Nat)⟩ [],tkA P a4 b4 [59],tkB P a4 b4 [59])
 else (ndS ⟨0,0,s,0,0,(plS P a:Nat)⟩ [],tkA P a1 b1 [59],tkB P a1 b1 [59])
def DeS (P:RP) (a:Nat) (bad:Int) (ns:List Nd) (a':Nat) (bad':Int):Prop:=deF P a bad=(ns,a',bad')
theorem DeS.var {P:RP} {a a6:Nat} {bad b6:Int} {s:ByteArray} {t:List UInt8} (ht:t=[59]) (h:isS P a bad [97,114,114,97,121]=false) (hs:s=naT P (a+1) bad) (h6:a6=naA P (a+1) bad∧b6=naB P (a+1) bad):DeS P a bad (ndS ⟨0,0,s,0,0,(plS P a:Nat)⟩ []) (tkA P a6 b6 t) (tkB P a6 b6 t):=by
 unfold DeS deF;rw [h,hs,h6.1,h6.2,ht];rfl
theorem DeS.arr {P:RP} {a a6 a7 a8 a9 a10:Nat} {bad b6 b7 b8 b9 b10 z:Int} {s:ByteArray} (h:isS P a bad [97,114,114,97,121]=true) (hs:s=naT P (a+1) bad) (h6:a6=naA P (a+1) bad∧b6=naB P (a+1) bad) (h7:a7=tkA P a6 b6 [91]∧b7=tkB P a6 b6 [91]) (h8:a8=(if numS P a7 b7 then a7+1 else a7)∧b8=(if numS P a7 b7 then b7 else failS P a7 b7)) (hz:z=if numS P a7 b7 then nuS P a7 else 0) (h9:a9=tkA P a8 b8 [93]∧b9=tkB P a8 b8 [93]) (h10:a10=tkA P a9 b9 [59]∧b10=tkB P a9 b9 [59]):DeS P a bad (ndS ⟨0,1,s,z,0,(plS P a:Nat)⟩ []) a10 b10:=by
 obtain ⟨rfl,rfl⟩:=h6
 obtain ⟨rfl,rfl⟩:=h7
 obtain ⟨rfl,rfl⟩:=h8
 obtain ⟨rfl,rfl⟩:=h9
 obtain ⟨rfl,rfl⟩:=h10
 subst hs hz
 unfold DeS deF;rw [h];rfl
theorem Acc.bad {P:RP} {a n ac e:Nat} {badc:Int} (h:Acc P a n ac badc e):Acc P a n ac (failS P ac badc) e:=by
 have h1:=h.le
 have h2:=h.len
 have:=ze6 P ac badc
 refine ⟨h1,?_⟩
 rw [if_neg (by omega)]
 split at h2<;>omega
theorem zw9 {P:RP} {a:Nat} {bad:Int} (h:numS P a bad=false) (x:Int):(0:Int)=if numS P a bad then x else 0:=by rw [h];rfl
theorem zS5 {P:RP} {a:Nat} {bad b8:Int} (h:numS P a bad=false) (h8:b8=failS P a bad):a=(if numS P a bad then a+1 else a)∧b8=(if numS P a bad then bad else failS P a bad):=by rw [h];exact ⟨rfl,h8⟩
theorem yg9 {P:RP} {a:Nat} {bad nm:Int} {k p:Nat} {tx:List UInt8} (hb:bad<0) (hx:P.ts[a]?=some (k,tx,nm,p)) (hk:k=1):numS P a bad=true∧nuS P a=nm:=by
 unfold numS nuS;rw [hx,decide_eq_true hb,hk];exact ⟨rfl,rfl⟩
theorem yj6 {P:RP} {a:Nat} {bad:Int} (h:numS P a bad=true):a+1=(if numS P a bad then a+1 else a)∧bad=(if numS P a bad then bad else failS P a bad):=by rw [h];exact ⟨rfl,rfl⟩
theorem num_z {P:RP} {a:Nat} {bad nm:Int} (h:numS P a bad=true∧nuS P a=nm):nm=if numS P a bad then nuS P a else 0:=by rw [h.1,h.2];rfl
set_option maxRecDepth 100000 in
set_option maxHeartbeats 4000000 in
theorem ya7 (P:RP) (rb:Nat) (w:World) (a:Nat) (bad:Int) (hG:GT P) (h:RI P rb w a bad) (hb:bad<0) (ha:a<P.ts.length) (hi2:isS P a bad [97,114,114,97,121]=false):Calls Tryz.prog 53 #[.pointer (some ⟨rb,0,none⟩)] w (EPs (DeS P a bad) P rb w a bad):=by
 have H:=hid h
 have HG:=hid hG
 have HI_2:Hid _:=hi2
 have HB0:=hid hb
 have hlen:(P.ts.length:Nat)≤1000000:=h.lim.1
 clear hi2 hb
 have haw:IntKind.i64.wrap ((a:Int)+1)=((a+1:Nat):Int):=zb0 (by have:=H.out.lim;omega)
 clear h hG
 go_enter Tryz.func53,Tryz.ntmps53
 go_wp2_with (first
  | (go_at_call 75;refine (zb6 P rb _ a bad H.out).mono ?_;rintro e w1 ⟨rfl,hok⟩;have HR1:Hid (RI P rb w1 a bad):=H.out.ok hok;have HK1:Hid (Ok w w1):=hok;clear hok)
  | (go_at_call 52;refine (za8 P rb _ a bad _ HR1.out).mono ?_;rintro e w2 ⟨rfl,hok⟩;rw [show isS P a bad (⟨#[97,114,114,97,121]⟩:ByteArray).toList=false by (rw [ByteArray.toList_eq];exact HI_2.out)];have HR2:Hid (RI P rb w2 a bad):=HR1.out.ok hok;have HK2:Hid (Ok w w2):=HK1.out.step hok;obtain ⟨f0,f1,f2,f3,z0,z1,z2,z3⟩:=za5 HR2.out.row;have hlt:=HR2.out.lt;clear hok)
  | (go_at_call 76;refine (zi4 P rb _ (a+1) bad (HR2.out.setAt (a+1) ha)).mono ?_;rintro e w10 ⟨s,rfl,hs,hr6,hf6⟩;have HSZ:Hid (s.size≤1000000):=zf1 HG.out hs;obtain ⟨a6,ha6⟩:∃ x,x=(if namS P (a+1) bad then a+1+1 else a+1):=⟨_,rfl⟩;obtain ⟨b6,hb6⟩:∃ x,x=(if namS P (a+1) bad then bad else failS P (a+1) bad):=⟨_,rfl⟩;rw [←ha6,←hb6] at hr6;have HR6:Hid (RI P rb w10 a6 b6∧Fr rb w w10∧Acc P a 0 a6 b6 0):=⟨hr6,((Fr.of HK2.out).set 1 _).trans hf6,(by rw [ha6,hb6];exact (Acc.start P a bad).name)⟩;have HNA:Hid (s=naT P (a+1) bad):=zp5 hs;have HA6:Hid (a6=naA P (a+1) bad∧b6=naB P (a+1) bad):=⟨ha6,hb6⟩;clear hs hr6 hf6 ha6 hb6 f0 f1 f2 f3 z0 z1 z2 z3 hlt)
  | (go_at_call_of 77 ((⟨#[59]⟩:ByteArray));refine (zc4 P rb _ a6 b6 _ HR6.out.1).mono ?_;rintro e w11 ⟨rfl,hr,hf⟩;obtain ⟨a7,ha1⟩:∃ x,x=(if isS P a6 b6 (⟨#[59]⟩:ByteArray).toList then a6+1 else a6):=⟨_,rfl⟩;obtain ⟨b7,hb1⟩:∃ x,x=(if isS P a6 b6 (⟨#[59]⟩:ByteArray).toList then b6 else failS P a6 b6):=⟨_,rfl⟩;rw [←ha1,←hb1] at hr;have HR7:Hid (RI P rb w11 a7 b7∧Fr rb w w11∧Acc P a 0 a7 b7 0):=⟨hr,HR6.out.2.1.trans hf,(by rw [ha1,hb1];exact HR6.out.2.2.take _)⟩;have HA7:Hid (a7=tkA P a6 b6 [59]∧b7=tkB P a6 b6 [59]):=⟨by rw [ha1,ByteArray.toList_eq];rfl,by rw [hb1,ByteArray.toList_eq];rfl⟩;clear hr hf ha1 hb1)
  | (go_at_call 78;refine (zc5 _ ⟨0,0,s,0,0,(plS P a:Nat)⟩ _ [] (HD.none _) (by simp [held]) (by simp)).mono ?_;rintro e w21 ⟨v4,rfl,hn4,hok⟩;have HF:Hid (EPs (DeS P a bad) P rb w a bad (.returned v4) w21):=zf0 HR7.out.2.1 HR7.out.1 HB0.out HR7.out.2.2 (by decide) ⟨HSZ.out,by simp,by simp,by simp⟩ rfl (fun x hx=>by cases hx) hn4 HR7.out.2.1.le hok (by rw [HA7.out.1,HA7.out.2];exact DeS.var rfl HI_2.out HNA.out HA6.out);clear hn4 hok)
  | fail)
 go_ret
 exact HF.out
set_option maxRecDepth 100000 in
set_option maxHeartbeats 4000000 in
theorem ya8 (P:RP) (rb:Nat) (w:World) (a:Nat) (bad:Int) (hG:GT P) (h:RI P rb w a bad) (hb:bad<0) (ha:a<P.ts.length) (hi2:isS P a bad [97,114,114,97,121]=true):Calls Tryz.prog 53 #[.pointer (some ⟨rb,0,none⟩)] w (EPs (DeS P a bad) P rb w a bad):=by
 have H:=hid h
 have HG:=hid hG
 have HI_2:Hid _:=hi2
 have HB0:=hid hb
 have hlen:(P.ts.length:Nat)≤1000000:=h.lim.1
 clear hi2 hb
 have haw:IntKind.i64.wrap ((a:Int)+1)=((a+1:Nat):Int):=zb0 (by have:=H.out.lim;omega)
 clear h hG
 go_enter Tryz.func53,Tryz.ntmps53
 go_wp2_with (first
  | (go_at_call 75;refine (zb6 P rb _ a bad H.out).mono ?_;rintro e w1 ⟨rfl,hok⟩;have HR1:Hid (RI P rb w1 a bad):=H.out.ok hok;have HK1:Hid (Ok w w1):=hok;clear hok)
  | (go_at_call 52;refine (za8 P rb _ a bad _ HR1.out).mono ?_;rintro e w2 ⟨rfl,hok⟩;rw [show isS P a bad (⟨#[97,114,114,97,121]⟩:ByteArray).toList=true by (rw [ByteArray.toList_eq];exact HI_2.out)];have HR2:Hid (RI P rb w2 a bad):=HR1.out.ok hok;have HK2:Hid (Ok w w2):=HK1.out.step hok;obtain ⟨f0,f1,f2,f3,z0,z1,z2,z3⟩:=za5 HR2.out.row;have hlt:=HR2.out.lt;clear hok)
  | (go_at_call 76;refine (zi4 P rb _ (a+1) bad (HR2.out.setAt (a+1) ha)).mono ?_;rintro e w10 ⟨s,rfl,hs,hr6,hf6⟩;have HSZ:Hid (s.size≤1000000):=zf1 HG.out hs;obtain ⟨a6,ha6⟩:∃ x,x=(if namS P (a+1) bad then a+1+1 else a+1):=⟨_,rfl⟩;obtain ⟨b6,hb6⟩:∃ x,x=(if namS P (a+1) bad then bad else failS P (a+1) bad):=⟨_,rfl⟩;rw [←ha6,←hb6] at hr6;have HR6:Hid (RI P rb w10 a6 b6∧Fr rb w w10∧Acc P a 0 a6 b6 0):=⟨hr6,((Fr.of HK2.out).set 1 _).trans hf6,(by rw [ha6,hb6];exact (Acc.start P a bad).name)⟩;have HNA:Hid (s=naT P (a+1) bad):=zp5 hs;have HA6:Hid (a6=naA P (a+1) bad∧b6=naB P (a+1) bad):=⟨ha6,hb6⟩;clear hs hr6 hf6 ha6 hb6 f0 f1 f2 f3 z0 z1 z2 z3 hlt)
  | (go_at_call_of 77 ((⟨#[91]⟩:ByteArray));refine (zc4 P rb _ a6 b6 _ HR6.out.1).mono ?_;rintro e w11 ⟨rfl,hr,hf⟩;obtain ⟨a7,ha1⟩:∃ x,x=(if isS P a6 b6 (⟨#[91]⟩:ByteArray).toList then a6+1 else a6):=⟨_,rfl⟩;obtain ⟨b7,hb1⟩:∃ x,x=(if isS P a6 b6 (⟨#[91]⟩:ByteArray).toList then b6 else failS P a6 b6):=⟨_,rfl⟩;rw [←ha1,←hb1] at hr;have HR7:Hid (RI P rb w11 a7 b7∧Fr rb w w11∧Acc P a 0 a7 b7 0):=⟨hr,HR6.out.2.1.trans hf,(by rw [ha1,hb1];exact HR6.out.2.2.take _)⟩;have HA7:Hid (a7=tkA P a6 b6 [91]∧b7=tkB P a6 b6 [91]):=⟨by rw [ha1,ByteArray.toList_eq];rfl,by rw [hb1,ByteArray.toList_eq];rfl⟩;clear hr hf ha1 hb1)
  | fail)
 obtain ⟨f0,f1,f2,f3,z0,z1,z2,z3⟩:=za5 HR7.out.1.row
 have hlt:=HR7.out.1.lt
 by_cases hb7:b7<0
 ·have hb7':decide (b7<0)=true:=decide_eq_true hb7
  have HB7:Hid (b7<0):=hb7
  by_cases ha7:a7<P.ts.length
  ·have ha7':(a7:Int)<(P.ts.length:Int):=za4 ha7
   have ha72:decide (a7<P.ts.length)=true:=decide_eq_true ha7
   obtain ⟨g,c,y,b,htv,hg,hy,hbt,c0,c1,c2,c3⟩:=HR7.out.1.tok ha7
   obtain ⟨kd,tx,nm,pl⟩:=y
   have HX:Hid (P.ts[a7]?=some (kd,tx,nm,pl)):=hy
   have HTV:Hid (P.tv=.slice (some ⟨g,0,none⟩) P.ts.length c):=htv
   simp only at c0 c1 c2 c3
   rw [htv] at f0
   clear htv hy hbt
   by_cases hk:kd=1
   ·subst hk
    have HNY:Hid (numS P a7 b7=true∧nuS P a7=nm):=yg9 hb7 HX.out rfl
    have haw7:IntKind.i64.wrap ((a7:Int)+1)=((a7+1:Nat):Int):=zb0 (by omega)
    have HNM:Hid (nm≤9223372036854775807):=(HG.out.2 _ (List.mem_of_getElem? HX.out)).2
    go_quiet (fail)
    obtain ⟨w9,hw9⟩:∃ w9,w9=w11.drewN nq:=⟨_,rfl⟩
    rw [←hw9]
    have HR9:Hid (RI P rb w9 a7 b7∧Fr rb w w9∧Acc P a 0 a7 b7 0):=by unfold Hid;rw [hw9];exact ⟨HR7.out.1.ok ((Ok.refl _).draws _),HR7.out.2.1.trans (Fr.of ((Ok.refl _).draws _)),HR7.out.2.2⟩
    clear hw9 f0 f1 f2 f3 z0 z1 z2 z3 hlt
    clear c0 c1 c2 c3 hg
    obtain ⟨f0,f1,f2,f3,z0,z1,z2,z3⟩:=za5 HR9.out.1.row
    have hlt:=HR9.out.1.lt
    obtain ⟨g',c',y,b',htv,hg,hy,hbt,c0,c1,c2,c3⟩:=HR9.out.1.tok ha7
    have e:y=(1,tx,nm,pl):=by have:=HX.out;rw [hy] at this;exact Option.some.inj this
    subst e
    simp only at c0 c1 c2 c3
    rw [htv] at f0
    clear hy hbt htv
    go_wp2_with fail
    go_quiet (fail)
    obtain ⟨w8,hw8⟩:∃ w8,w8=w9.drewN nq:=⟨_,rfl⟩
    rw [←hw8]
    have HR8:Hid (RI P rb w8 a7 b7∧Fr rb w w8∧Acc P a 0 a7 b7 0):=by unfold Hid;rw [hw8];exact ⟨HR9.out.1.ok ((Ok.refl _).draws _),HR9.out.2.1.trans (Fr.of ((Ok.refl _).draws _)),HR9.out.2.2⟩
    clear hw8 f0 f1 f2 f3 z0 z1 z2 z3 hlt c0 c1 c2 c3 hg
    obtain ⟨f0,f1,f2,f3,z0,z1,z2,z3⟩:=za5 HR8.out.1.row
    have hlt:=HR8.out.1.lt
    go_wp2_with (first
  | (go_at_call_of 77 ((⟨#[93]⟩:ByteArray));refine (zc4 P rb _ (a7+1) b7 _ (HR8.out.1.setAt (a7+1) ha7)).mono ?_;rintro e w13 ⟨rfl,hr,hf⟩;obtain ⟨a10,ha1⟩:∃ x,x=(if isS P (a7+1) b7 (⟨#[93]⟩:ByteArray).toList then (a7+1)+1 else (a7+1)):=⟨_,rfl⟩;obtain ⟨b10,hb1⟩:∃ x,x=(if isS P (a7+1) b7 (⟨#[93]⟩:ByteArray).toList then b7 else failS P (a7+1) b7):=⟨_,rfl⟩;rw [←ha1,←hb1] at hr;have HR10:Hid (RI P rb w13 a10 b10∧Fr rb w w13∧Acc P a 0 a10 b10 0):=⟨hr,(HR8.out.2.1.set 1 _).trans hf,(by rw [ha1,hb1];exact HR8.out.2.2.on.take _)⟩;have HA10:Hid (a10=tkA P (a7+1) b7 [93]∧b10=tkB P (a7+1) b7 [93]):=⟨by rw [ha1,ByteArray.toList_eq];rfl,by rw [hb1,ByteArray.toList_eq];rfl⟩;clear hr hf ha1 hb1 f0 f1 f2 f3 z0 z1 z2 z3 hlt)
  | (go_at_call_of 77 ((⟨#[59]⟩:ByteArray));refine (zc4 P rb _ a10 b10 _ HR10.out.1).mono ?_;rintro e w14 ⟨rfl,hr,hf⟩;obtain ⟨a11,ha1⟩:∃ x,x=(if isS P a10 b10 (⟨#[59]⟩:ByteArray).toList then a10+1 else a10):=⟨_,rfl⟩;obtain ⟨b11,hb1⟩:∃ x,x=(if isS P a10 b10 (⟨#[59]⟩:ByteArray).toList then b10 else failS P a10 b10):=⟨_,rfl⟩;rw [←ha1,←hb1] at hr;have HR11:Hid (RI P rb w14 a11 b11∧Fr rb w w14∧Acc P a 0 a11 b11 0):=⟨hr,HR10.out.2.1.trans hf,(by rw [ha1,hb1];exact HR10.out.2.2.take _)⟩;have HA11:Hid (a11=tkA P a10 b10 [59]∧b11=tkB P a10 b10 [59]):=⟨by rw [ha1,ByteArray.toList_eq];rfl,by rw [hb1,ByteArray.toList_eq];rfl⟩;clear hr hf ha1 hb1)
  | (go_at_call 78;refine (zc5 _ ⟨0,1,s,nm,0,(plS P a:Nat)⟩ _ [] (HD.none _) (by simp [held]) (by simp)).mono ?_;rintro e w21 ⟨v4,rfl,hn4,hok⟩;have HF:Hid (EPs (DeS P a bad) P rb w a bad (.returned v4) w21):=zf0 HR11.out.2.1 HR11.out.1 HB0.out HR11.out.2.2 (by decide) ⟨HSZ.out,by simp,by simp,HNM.out⟩ rfl (fun x hx=>by cases hx) hn4 HR11.out.2.1.le hok (DeS.arr HI_2.out HNA.out HA6.out HA7.out (yj6 HNY.out.1) (num_z HNY.out) HA10.out HA11.out);clear hn4 hok)
  | fail)
    go_ret
    exact HF.out
   ·have hk1:((kd:Int)==1)=false:=by rw [beq_eq_false_iff_ne];intro e;exact hk (show kd=1 by omega)
    have HNU:Hid (numS P a7 b7=false):=zm4 HX.out hk
    clear hk
    go_quiet (fail)
    obtain ⟨w9,hw9⟩:∃ w9,w9=w11.drewN nq:=⟨_,rfl⟩
    rw [←hw9]
    have HR9:Hid (RI P rb w9 a7 b7∧Fr rb w w9∧Acc P a 0 a7 b7 0):=by unfold Hid;rw [hw9];exact ⟨HR7.out.1.ok ((Ok.refl _).draws _),HR7.out.2.1.trans (Fr.of ((Ok.refl _).draws _)),HR7.out.2.2⟩
    clear hw9 f0 f1 f2 f3 z0 z1 z2 z3 hlt
    clear c0 c1 c2 c3 hg
    go_wp2_with (first
  | (go_at_call 79;refine (zi3 P rb _ a7 b7 HR9.out.1).mono ?_;rintro e w12 ⟨rfl,hr9,hf9⟩;obtain ⟨b8,hb8⟩:∃ x,x=failS P a7 b7:=⟨_,rfl⟩;rw [←hb8] at hr9;have HR8:Hid (RI P rb w12 a7 b8∧Fr rb w w12∧Acc P a 0 a7 b8 0):=⟨hr9,HR9.out.2.1.trans hf9,(by rw [hb8];exact HR9.out.2.2.bad)⟩;have HA8:Hid (b8=failS P a7 b7):=hb8;clear hr9 hf9 hb8)
  | (go_at_call_of 77 ((⟨#[93]⟩:ByteArray));refine (zc4 P rb _ a7 b8 _ HR8.out.1).mono ?_;rintro e w13 ⟨rfl,hr,hf⟩;obtain ⟨a10,ha1⟩:∃ x,x=(if isS P a7 b8 (⟨#[93]⟩:ByteArray).toList then a7+1 else a7):=⟨_,rfl⟩;obtain ⟨b10,hb1⟩:∃ x,x=(if isS P a7 b8 (⟨#[93]⟩:ByteArray).toList then b8 else failS P a7 b8):=⟨_,rfl⟩;rw [←ha1,←hb1] at hr;have HR10:Hid (RI P rb w13 a10 b10∧Fr rb w w13∧Acc P a 0 a10 b10 0):=⟨hr,HR8.out.2.1.trans hf,(by rw [ha1,hb1];exact HR8.out.2.2.take _)⟩;have HA10:Hid (a10=tkA P a7 b8 [93]∧b10=tkB P a7 b8 [93]):=⟨by rw [ha1,ByteArray.toList_eq];rfl,by rw [hb1,ByteArray.toList_eq];rfl⟩;clear hr hf ha1 hb1)
  | (go_at_call_of 77 ((⟨#[59]⟩:ByteArray));refine (zc4 P rb _ a10 b10 _ HR10.out.1).mono ?_;rintro e w14 ⟨rfl,hr,hf⟩;obtain ⟨a11,ha1⟩:∃ x,x=(if isS P a10 b10 (⟨#[59]⟩:ByteArray).toList then a10+1 else a10):=⟨_,rfl⟩;obtain ⟨b11,hb1⟩:∃ x,x=(if isS P a10 b10 (⟨#[59]⟩:ByteArray).toList then b10 else failS P a10 b10):=⟨_,rfl⟩;rw [←ha1,←hb1] at hr;have HR11:Hid (RI P rb w14 a11 b11∧Fr rb w w14∧Acc P a 0 a11 b11 0):=⟨hr,HR10.out.2.1.trans hf,(by rw [ha1,hb1];exact HR10.out.2.2.take _)⟩;have HA11:Hid (a11=tkA P a10 b10 [59]∧b11=tkB P a10 b10 [59]):=⟨by rw [ha1,ByteArray.toList_eq];rfl,by rw [hb1,ByteArray.toList_eq];rfl⟩;clear hr hf ha1 hb1)
  | (go_at_call 78;refine (zc5 _ ⟨0,1,s,0,0,(plS P a:Nat)⟩ _ [] (HD.none _) (by simp [held]) (by simp)).mono ?_;rintro e w21 ⟨v4,rfl,hn4,hok⟩;have HF:Hid (EPs (DeS P a bad) P rb w a bad (.returned v4) w21):=zf0 HR11.out.2.1 HR11.out.1 HB0.out HR11.out.2.2 (by decide) ⟨HSZ.out,by simp,by simp,by simp⟩ rfl (fun x hx=>by cases hx) hn4 HR11.out.2.1.le hok (DeS.arr HI_2.out HNA.out HA6.out HA7.out (zS5 HNU.out HA8.out) (zw9 HNU.out _) HA10.out HA11.out);clear hn4 hok)
  | fail)
    go_ret
    exact HF.out
  ·have ha7':¬(a7:Int)<(P.ts.length:Int):=za9 ha7
   have ha72:decide (a7<P.ts.length)=false:=decide_eq_false ha7
   have HNU:Hid (numS P a7 b7=false):=zw7 (.inr ha7)
   obtain ⟨ao,cap,htv⟩:=za0 HR7.out.1.own
   rw [htv] at f0
   clear htv
   go_quiet (fail)
   obtain ⟨w9,hw9⟩:∃ w9,w9=w11.drewN nq:=⟨_,rfl⟩
   rw [←hw9]
   have HR9:Hid (RI P rb w9 a7 b7∧Fr rb w w9∧Acc P a 0 a7 b7 0):=by unfold Hid;rw [hw9];exact ⟨HR7.out.1.ok ((Ok.refl _).draws _),HR7.out.2.1.trans (Fr.of ((Ok.refl _).draws _)),HR7.out.2.2⟩
   clear hw9 f0 f1 f2 f3 z0 z1 z2 z3 hlt
   go_wp2_with (first
  | (go_at_call 79;refine (zi3 P rb _ a7 b7 HR9.out.1).mono ?_;rintro e w12 ⟨rfl,hr9,hf9⟩;obtain ⟨b8,hb8⟩:∃ x,x=failS P a7 b7:=⟨_,rfl⟩;rw [←hb8] at hr9;have HR8:Hid (RI P rb w12 a7 b8∧Fr rb w w12∧Acc P a 0 a7 b8 0):=⟨hr9,HR9.out.2.1.trans hf9,(by rw [hb8];exact HR9.out.2.2.bad)⟩;have HA8:Hid (b8=failS P a7 b7):=hb8;clear hr9 hf9 hb8)
  | (go_at_call_of 77 ((⟨#[93]⟩:ByteArray));refine (zc4 P rb _ a7 b8 _ HR8.out.1).mono ?_;rintro e w13 ⟨rfl,hr,hf⟩;obtain ⟨a10,ha1⟩:∃ x,x=(if isS P a7 b8 (⟨#[93]⟩:ByteArray).toList then a7+1 else a7):=⟨_,rfl⟩;obtain ⟨b10,hb1⟩:∃ x,x=(if isS P a7 b8 (⟨#[93]⟩:ByteArray).toList then b8 else failS P a7 b8):=⟨_,rfl⟩;rw [←ha1,←hb1] at hr;have HR10:Hid (RI P rb w13 a10 b10∧Fr rb w w13∧Acc P a 0 a10 b10 0):=⟨hr,HR8.out.2.1.trans hf,(by rw [ha1,hb1];exact HR8.out.2.2.take _)⟩;have HA10:Hid (a10=tkA P a7 b8 [93]∧b10=tkB P a7 b8 [93]):=⟨by rw [ha1,ByteArray.toList_eq];rfl,by rw [hb1,ByteArray.toList_eq];rfl⟩;clear hr hf ha1 hb1)
  | (go_at_call_of 77 ((⟨#[59]⟩:ByteArray));refine (zc4 P rb _ a10 b10 _ HR10.out.1).mono ?_;rintro e w14 ⟨rfl,hr,hf⟩;obtain ⟨a11,ha1⟩:∃ x,x=(if isS P a10 b10 (⟨#[59]⟩:ByteArray).toList then a10+1 else a10):=⟨_,rfl⟩;obtain ⟨b11,hb1⟩:∃ x,x=(if isS P a10 b10 (⟨#[59]⟩:ByteArray).toList then b10 else failS P a10 b10):=⟨_,rfl⟩;rw [←ha1,←hb1] at hr;have HR11:Hid (RI P rb w14 a11 b11∧Fr rb w w14∧Acc P a 0 a11 b11 0):=⟨hr,HR10.out.2.1.trans hf,(by rw [ha1,hb1];exact HR10.out.2.2.take _)⟩;have HA11:Hid (a11=tkA P a10 b10 [59]∧b11=tkB P a10 b10 [59]):=⟨by rw [ha1,ByteArray.toList_eq];rfl,by rw [hb1,ByteArray.toList_eq];rfl⟩;clear hr hf ha1 hb1)
  | (go_at_call 78;refine (zc5 _ ⟨0,1,s,0,0,(plS P a:Nat)⟩ _ [] (HD.none _) (by simp [held]) (by simp)).mono ?_;rintro e w21 ⟨v4,rfl,hn4,hok⟩;have HF:Hid (EPs (DeS P a bad) P rb w a bad (.returned v4) w21):=zf0 HR11.out.2.1 HR11.out.1 HB0.out HR11.out.2.2 (by decide) ⟨HSZ.out,by simp,by simp,by simp⟩ rfl (fun x hx=>by cases hx) hn4 HR11.out.2.1.le hok (DeS.arr HI_2.out HNA.out HA6.out HA7.out (zS5 HNU.out HA8.out) (zw9 HNU.out _) HA10.out HA11.out);clear hn4 hok)
  | fail)
   go_ret
   exact HF.out
 ·have hb7':decide (b7<0)=false:=decide_eq_false hb7
  have HNU:Hid (numS P a7 b7=false):=zw7 (.inl hb7)
  obtain ⟨ao,cap,htv⟩:=za0 HR7.out.1.own
  rw [htv] at f0
  clear htv
  go_quiet (fail)
  obtain ⟨w9,hw9⟩:∃ w9,w9=w11.drewN nq:=⟨_,rfl⟩
  rw [←hw9]
  have HR9:Hid (RI P rb w9 a7 b7∧Fr rb w w9∧Acc P a 0 a7 b7 0):=by unfold Hid;rw [hw9];exact ⟨HR7.out.1.ok ((Ok.refl _).draws _),HR7.out.2.1.trans (Fr.of ((Ok.refl _).draws _)),HR7.out.2.2⟩
  clear hw9 f0 f1 f2 f3 z0 z1 z2 z3 hlt
  go_wp2_with (first
  | (go_at_call 79;refine (zi3 P rb _ a7 b7 HR9.out.1).mono ?_;rintro e w12 ⟨rfl,hr9,hf9⟩;obtain ⟨b8,hb8⟩:∃ x,x=failS P a7 b7:=⟨_,rfl⟩;rw [←hb8] at hr9;have HR8:Hid (RI P rb w12 a7 b8∧Fr rb w w12∧Acc P a 0 a7 b8 0):=⟨hr9,HR9.out.2.1.trans hf9,(by rw [hb8];exact HR9.out.2.2.bad)⟩;have HA8:Hid (b8=failS P a7 b7):=hb8;clear hr9 hf9 hb8)
  | (go_at_call_of 77 ((⟨#[93]⟩:ByteArray));refine (zc4 P rb _ a7 b8 _ HR8.out.1).mono ?_;rintro e w13 ⟨rfl,hr,hf⟩;obtain ⟨a10,ha1⟩:∃ x,x=(if isS P a7 b8 (⟨#[93]⟩:ByteArray).toList then a7+1 else a7):=⟨_,rfl⟩;obtain ⟨b10,hb1⟩:∃ x,x=(if isS P a7 b8 (⟨#[93]⟩:ByteArray).toList then b8 else failS P a7 b8):=⟨_,rfl⟩;rw [←ha1,←hb1] at hr;have HR10:Hid (RI P rb w13 a10 b10∧Fr rb w w13∧Acc P a 0 a10 b10 0):=⟨hr,HR8.out.2.1.trans hf,(by rw [ha1,hb1];exact HR8.out.2.2.take _)⟩;have HA10:Hid (a10=tkA P a7 b8 [93]∧b10=tkB P a7 b8 [93]):=⟨by rw [ha1,ByteArray.toList_eq];rfl,by rw [hb1,ByteArray.toList_eq];rfl⟩;clear hr hf ha1 hb1)
  | (go_at_call_of 77 ((⟨#[59]⟩:ByteArray));refine (zc4 P rb _ a10 b10 _ HR10.out.1).mono ?_;rintro e w14 ⟨rfl,hr,hf⟩;obtain ⟨a11,ha1⟩:∃ x,x=(if isS P a10 b10 (⟨#[59]⟩:ByteArray).toList then a10+1 else a10):=⟨_,rfl⟩;obtain ⟨b11,hb1⟩:∃ x,x=(if isS P a10 b10 (⟨#[59]⟩:ByteArray).toList then b10 else failS P a10 b10):=⟨_,rfl⟩;rw [←ha1,←hb1] at hr;have HR11:Hid (RI P rb w14 a11 b11∧Fr rb w w14∧Acc P a 0 a11 b11 0):=⟨hr,HR10.out.2.1.trans hf,(by rw [ha1,hb1];exact HR10.out.2.2.take _)⟩;have HA11:Hid (a11=tkA P a10 b10 [59]∧b11=tkB P a10 b10 [59]):=⟨by rw [ha1,ByteArray.toList_eq];rfl,by rw [hb1,ByteArray.toList_eq];rfl⟩;clear hr hf ha1 hb1)
  | (go_at_call 78;refine (zc5 _ ⟨0,1,s,0,0,(plS P a:Nat)⟩ _ [] (HD.none _) (by simp [held]) (by simp)).mono ?_;rintro e w21 ⟨v4,rfl,hn4,hok⟩;have HF:Hid (EPs (DeS P a bad) P rb w a bad (.returned v4) w21):=zf0 HR11.out.2.1 HR11.out.1 HB0.out HR11.out.2.2 (by decide) ⟨HSZ.out,by simp,by simp,by simp⟩ rfl (fun x hx=>by cases hx) hn4 HR11.out.2.1.le hok (DeS.arr HI_2.out HNA.out HA6.out HA7.out (zS5 HNU.out HA8.out) (zw9 HNU.out _) HA10.out HA11.out);clear hn4 hok)
  | fail)
  go_ret
  exact HF.out
theorem zH4 (P:RP) (rb:Nat) (hG:GT P) (w:World) (a:Nat) (bad:Int) (h:RI P rb w a bad) (hb:bad<0) (ha:a<P.ts.length):Calls Tryz.prog 53 #[.pointer (some ⟨rb,0,none⟩)] w (EPs (DeS P a bad) P rb w a bad):=by
 cases hi:isS P a bad [97,114,114,97,121] with
 | true=>exact ya8 P rb w a bad hG h hb ha hi
 | false=>exact ya7 P rb w a bad hG h hb ha hi
end Go.Proofs.YtgobgdljckamkaaGreatDoor
