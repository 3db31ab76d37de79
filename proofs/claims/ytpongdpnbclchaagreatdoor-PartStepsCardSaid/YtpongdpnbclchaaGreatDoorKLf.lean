import Derived.Test.YtpongdpnbclchaaGreatDoorKLb
set_option maxHeartbeats 8000000
set_option linter.all false
set_option maxRecDepth 100000
namespace Go.Proofs.YtpongdpnbclchaaGreatDoor
variable{N0 e fuel g i j k:Nat}{b s:ByteArray}{l t:List UInt8}{n:Int}{v:Value}{w w1 wr:World}{xs:List Value}
section
open Go.RowKit
def sgs:List ByteArray:=[⟨#[60,61]⟩,⟨#[62,61]⟩,⟨#[61,61]⟩,⟨#[33,61]⟩,⟨#[38,38]⟩,⟨#[124,124]⟩,⟨#[58,61]⟩,⟨#[43]⟩,⟨#[45]⟩,⟨#[42]⟩,⟨#[47]⟩,⟨#[37]⟩,⟨#[60]⟩,⟨#[62]⟩,⟨#[33]⟩,⟨#[40]⟩,⟨#[41]⟩,⟨#[91]⟩,⟨#[93]⟩,⟨#[123]⟩,⟨#[125]⟩,⟨#[59]⟩]
theorem yf3(w:World):Calls Tryz.prog 106 #[] w λe w'=>e=.returned (.slice (sA w.heap.size 0) 22 22)/\w'=w.alloc (.cells (sgs.map Value.string).toArray 9):=by go_enter Tryz.func106,Tryz.ntmps106;go_wp2_with fail;go_ret;exact⟨rfl,rfl⟩
def okc(c:UInt8):Bool:=DA c||BX c
def ES:List ByteArray->List UInt8->Option ByteArray
 | [],_=>none
 | x::r,l=>if x.toList==l.take x.size&&decide (x.size<=l.length) then some x else ES r l
def BB(l:List UInt8):Nat⊕(Nat×List UInt8×Int) :=
 match l with
 | []=>.inl 20
 | c::r =>
  if DA c then (if 16<DK okc l then .inl 21 else .inr (0,l.take (DK okc l),0))
  else if BX c then
   (if !DY (l.take (DK BX l))||((l.drop (DK BX l)).head?.map DA).getD false then .inl 22 else .inr (1,l.take (DK BX l),wh0 0 (l.take (DK BX l))))
  else match ES sgs l with
   | none=>.inl 20
   | some x=>.inr (2,x.toList,0)
def wr7:Value:=.agg #[nI 0,.string ⟨#[]⟩,nI 0,nI 0]
def CM(l:List UInt8)(i:Nat)(e:Ending):Prop :=
 match BB l with
 | .inl err=>e=.returned (.tuple #[wr7,nI (err:Nat)])
 | .inr (k,t,n)=>∃b:ByteArray,b.toList=t/\e=.returned (.tuple #[.agg #[nI (k:Nat),.string b,nI n,nI (i:Nat)],nI 0])
theorem zg2{a b c d:Value}{t:TypeId}(hg:w.heap[g]?=some (.cells #[a,b,c,d] t (0,0)))(x y z u:Value):((((w.setCell (aD g 0) x).setCell (aD g 1) y).setCell (aD g 2) z).setCell (aD g 3) u).heap[g]?=some (.cells #[x,y,z,u] t (0,0)):=by have h1:=heap_setCell_same w g 0 _ t x hg;have h2:=heap_setCell_same _ g 1 _ t y h1;have h3:=heap_setCell_same _ g 2 _ t z h2;have h4:=heap_setCell_same _ g 3 _ t u h3;simpa using h4
theorem za6{a b c d:Value}{t:TypeId}(h:w.heap[g]?=some (.cells #[a,b,c,d] t (0,0))) :
  w.cell? (aD g 0)=some a/\w.cell? (aD g 1)=some b/\w.cell? (aD g 2)=some c/\w.cell? (aD g 3)=some d/\w.frozen? (aD g 0)=false/\w.frozen? (aD g 1)=false/\w.frozen? (aD g 2)=false/\w.frozen? (aD g 3)=false:=by
 refine⟨?_,?_,?_,?_,frozen_of_row _ _ _ _ _ h,frozen_of_row _ _ _ _ _ h,frozen_of_row _ _ _ _ _ h,frozen_of_row _ _ _ _ _ h⟩
 ·exact(cell_of_row _ _ 0 _ _ _ h).trans sI
 ·exact(cell_of_row _ _ 1 _ _ _ h).trans sI
 ·exact(cell_of_row _ _ 2 _ _ _ h).trans sI
 exact(cell_of_row _ _ 3 _ _ _ h).trans sI
theorem DZ:(Tryz.prog.info? 148).map (·.size)=some 4:=by kernel_rfl
def Z4(w:World):World:=w.alloc (.cells #[nI 0,.string ⟨#[]⟩,nI 0,nI 0] 148)
theorem zR0(w:World):(Z4 w).heap[w.heap.size]?=some (.cells #[nI 0,.string ⟨#[]⟩,nI 0,nI 0] 148 (0,0)):=za3 _ _
theorem wd1(w:World)(x y z u:Value):Ok w ((((Z4 w).setCell (aD w.heap.size 0) x).setCell (aD w.heap.size 1) y).setCell (aD w.heap.size 2) z |>.setCell (aD w.heap.size 3) u) :=
 (((((Ok.refl w).alloc _).set (p:=⟨w.heap.size,0,none⟩) (nR_ _) _).set (p:=⟨w.heap.size,1,none⟩) (nR_ _) _).set (p:=⟨w.heap.size,2,none⟩) (nR_ _) _).set (p:=⟨w.heap.size,3,none⟩) (nR_ _) _
theorem zV4(s:ByteArray)(i:Nat)(hi:i<s.size)(hs:s.size<=1000000)(hl:DA s[i]=true)(w:World) :
  Calls Tryz.prog 68 #[.string s,nI (i:Nat)] w λe w'=>CM (s.toList.drop i) i e/\Ok w w':=by
 have hi':(i:Int)<(s.size:Int):=by omega
 obtain⟨c,hc⟩:=qq (s[i]);have HD:Hi (s.toList.drop i=c::s.toList.drop (i+1)):=by rw[hc];exact zd7 s i hi
 have hci:(s[i].toNat:Int)=(c.toNat:Int):=by rw[hc]
 have hlc:DA c=true:=by rw[hc];exact hl
 have HI:=hid hi;obtain⟨n,hn⟩:=qq (DK okc (s.toList.drop i))
 have HP:Hi (BB (s.toList.drop i)=if 16<n then .inl 21 else .inr (0,(s.toList.drop i).take n,0)):=by unfold Hi;rw[hn,HD.o];simp only[BB,hlc,if_true]
 have HN:Hi (n=DK okc (s.toList.drop i)):=hn;clear hn hc hl;go_enter Tryz.func68,Tryz.ntmps68
 go_wp2_with (go_at_call 102;refine mq (ze0 c _) λw1 hw=>?_;replace hw:=hw.symm;subst hw;rw[hlc])
 obtain⟨W,hW⟩:=qq (Z4 w);have hW':W=w.alloc (.cells #[nI 0,.string ⟨#[]⟩,nI 0,nI 0] 148):=hW;rw[<-hW'];have HR:Hi (W.heap[w.heap.size]?=some (.cells #[nI 0,.string ⟨#[]⟩,nI 0,nI 0] 148 (0,0))):=by rw[hW];exact zR0 w
 have HW:Hi (W=Z4 w):=hW;clear hW hW';go_loopw [6] (λx wr=>∃(j:Nat),i<=j/\j<=s.size/\x=nI (j:Nat)/\Hi (n=(j-i)+DK okc (s.toList.drop j))/\wr=W) (λx _=>((s.size:Int)-intOf x).toNat)
 case atStart=>exact⟨i,Nat.le_refl _,Nat.le_of_lt HI.o,rfl,by unfold Hi;rw[HN.o];omega,rfl⟩
 obtain⟨j,hij,hj,rfl,HJ,rfl⟩:=hrel;clear hi' hci hlc hi;by_cases hjl:j<s.size
 ·have hjl':(j:Int)<(s.size:Int):=za5 hjl
  have hjw:IntKind.i64.wrap ((j:Int)+1)=((j+1:Nat):Int):=zb3 oM;obtain⟨d,hd⟩:=qq (s[j]);have hdi:(s[j].toNat:Int)=(d.toNat:Int):=by rw[hd]
  cases ho:okc d with
  | true =>
   have HE:Hi (n=(j+1-i)+DK okc (s.toList.drop (j+1))):=by unfold Hi;rw[HJ.o,zL0 hjl (by rw[<-hd];exact ho)];omega
   clear hd
   cases hdl:DA d with
   | true =>
    clear ho
    go_wp2_with (go_at_call 102;refine mq (ze0 d _) λw1 hw=>?_;replace hw:=hw.symm;subst hw;rw[hdl])
    go_roundw
    case rel=>exact⟨j+1,by omega,hjl,rfl,HE,trivial⟩
    case measure=>exact we3 hjl
   | false =>
    have hdd:BX d=true:=by unfold okc at ho;rw[hdl]at ho;simpa using ho
    clear ho
    go_wp2_with (first|(go_at_call 102;refine mq (ze0 d _) λw1 hw=>?_;replace hw:=hw.symm;subst hw;rw[hdl]) | (go_at_call 103;refine mq (ze9 d _) λw1 hw=>?_;replace hw:=hw.symm;subst hw;rw[hdd])|fail)
    go_roundw
    case rel=>exact⟨j+1,by omega,hjl,rfl,HE,trivial⟩
    case measure=>exact we3 hjl
  | false =>
   have HE:Hi (n=j-i):=by unfold Hi;rw[HJ.o,yf0 hjl (by rw[<-hd];exact ho)];omega
   have hdl:DA d=false:=by unfold okc at ho;cases h:DA d<;>simp_all
   have hdd:BX d=false:=by unfold okc at ho;cases h:BX d<;>simp_all
   clear hd ho;have hnw:IntKind.i64.wrap ((j:Int)-(i:Int))=(n:Int):=zd3 (by have:=HE.o;omega) (by have:=HE.o;omega);have hijI:(i:Int)<=(j:Int):=by omega
   obtain⟨f0,f1,f2,f3,z0,z1,z2,z3⟩:=za6 HR.o;have hlt:=za2 HR.o;by_cases h16:16<n
   ·have h16':(16:Int)<(n:Int):=by omega
    have HPP:Hi (BB (s.toList.drop i)=.inl 21):=by unfold Hi;rw[HP.o,if_pos h16]
    clear h16
    go_wp2_with (first|(go_at_call 102;refine mq (ze0 d _) λw1 hw=>?_;replace hw:=hw.symm;subst hw;rw[hdl]) | (go_at_call 103;refine mq (ze9 d _) λw1 hw=>?_;replace hw:=hw.symm;subst hw;rw[hdd])|fail)
    (try simp only[Exit.inBlock,Exit.then]);refine bodyPost_ret (zc0 rfl _ _ (w.heap.size) 148 #[_,_,_,_] (0,0) _ rfl (zg2 HR.o _ _ _ _) Tryz.underlying148 rfl DZ) rfl ?_;refine⟨?_,by rw[HW.o];exact wd1 w _ _ _ _⟩;unfold CM;rw[HPP.o];rfl
   have h16':¬(16:Int)<(n:Int):=by omega
   have HPP:Hi (BB (s.toList.drop i)=.inr (0,(s.toList.drop i).take n,0)):=by unfold Hi;rw[HP.o,if_neg h16]
   clear h16
   go_wp2_with (first|(go_at_call 102;refine mq (ze0 d _) λw1 hw=>?_;replace hw:=hw.symm;subst hw;rw[hdl]) | (go_at_call 103;refine mq (ze9 d _) λw1 hw=>?_;replace hw:=hw.symm;subst hw;rw[hdd])|fail)
   (try simp only[Exit.inBlock,Exit.then]);refine bodyPost_ret (zc0 rfl _ _ (w.heap.size) 148 #[_,_,_,_] (0,0) _ rfl (zg2 HR.o _ _ _ _) Tryz.underlying148 rfl DZ) rfl ?_;refine⟨?_,by rw[HW.o];exact wd1 w _ _ _ _⟩;unfold CM;rw[HPP.o];exact⟨s.extract i j,by rw[ze5,HE.o],rfl⟩
 have hjl':¬(j:Int)<(s.size:Int):=zb2 hjl;have HE:Hi (n=j-i):=by unfold Hi;rw[HJ.o,zL1 hjl];omega
 have hnw:IntKind.i64.wrap ((j:Int)-(i:Int))=(n:Int):=zd3 (by have:=HE.o;omega) (by have:=HE.o;omega);have hijI:(i:Int)<=(j:Int):=by omega
 obtain⟨f0,f1,f2,f3,z0,z1,z2,z3⟩:=za6 HR.o;have hlt:=za2 HR.o;by_cases h16:16<n
 ·have h16':(16:Int)<(n:Int):=by omega
  have HPP:Hi (BB (s.toList.drop i)=.inl 21):=by unfold Hi;rw[HP.o,if_pos h16]
  clear h16;go_wp2_with fail;(try simp only[Exit.inBlock,Exit.then]);refine bodyPost_ret (zc0 rfl _ _ (w.heap.size) 148 #[_,_,_,_] (0,0) _ rfl (zg2 HR.o _ _ _ _) Tryz.underlying148 rfl DZ) rfl ?_;refine⟨?_,by rw[HW.o];exact wd1 w _ _ _ _⟩;unfold CM;rw[HPP.o];rfl
 have h16':¬(16:Int)<(n:Int):=by omega
 have HPP:Hi (BB (s.toList.drop i)=.inr (0,(s.toList.drop i).take n,0)):=by unfold Hi;rw[HP.o,if_neg h16]
 clear h16;go_wp2_with fail;(try simp only[Exit.inBlock,Exit.then]);refine bodyPost_ret (zc0 rfl _ _ (w.heap.size) 148 #[_,_,_,_] (0,0) _ rfl (zg2 HR.o _ _ _ _) Tryz.underlying148 rfl DZ) rfl ?_;refine⟨?_,by rw[HW.o];exact wd1 w _ _ _ _⟩;unfold CM;rw[HPP.o];exact⟨s.extract i j,by rw[ze5,HE.o],rfl⟩
end
section
open Go.RowKit
theorem yq3(s:ByteArray)(h:i<=j)(hj:j<=s.size):(s.extract i j).size=j-i:=by rw[ByteArray.size_extract];omega
theorem yA0(s:ByteArray)(hj:j<=s.size)(hk:k<(s.extract i j).size):(s.extract i j)[k]=s[i+k]'(by rw[ByteArray.size_extract]at hk;omega):=by rw[ByteArray.getElem_extract]
theorem yf4(s:ByteArray)(i:Nat)(hi:i<s.size)(hs:s.size<=1000000)(hl:DA s[i]=false)(hdg:BX s[i]=true)(w:World) :
  Calls Tryz.prog 68 #[.string s,nI (i:Nat)] w λe w'=>CM (s.toList.drop i) i e/\Ok w w':=by
 have hi':(i:Int)<(s.size:Int):=by omega
 obtain⟨c,hc⟩:=qq (s[i]);have HD:Hi (s.toList.drop i=c::s.toList.drop (i+1)):=by rw[hc];exact zd7 s i hi
 have hci:(s[i].toNat:Int)=(c.toNat:Int):=by rw[hc]
 have hlc:DA c=false:=by rw[hc];exact hl
 have hdc:BX c=true:=by rw[hc];exact hdg
 have HI:=hid hi;obtain⟨n,hn⟩:=qq (DK BX (s.toList.drop i))
 have HP:Hi (BB (s.toList.drop i)=if (!DY ((s.toList.drop i).take n)||(((s.toList.drop i).drop n).head?.map DA).getD false)=true then .inl 22 else .inr (1,(s.toList.drop i).take n,wh0 0 ((s.toList.drop i).take n))):=by unfold Hi;rw[hn,HD.o];simp only[BB,hlc,hdc];rfl
 have HN:Hi (n=DK BX (s.toList.drop i)):=hn;clear hn hc hl hdg;go_enter Tryz.func68,Tryz.ntmps68
 go_wp2_with (first|(go_at_call 102;refine mq (ze0 c _) λw1 hw=>?_;replace hw:=hw.symm;subst hw;rw[hlc]) | (go_at_call 103;refine mq (ze9 c _) λw1 hw=>?_;replace hw:=hw.symm;subst hw;rw[hdc])|fail)
 obtain⟨W,hW⟩:=qq (Z4 w);have hW':W=w.alloc (.cells #[nI 0,.string ⟨#[]⟩,nI 0,nI 0] 148):=hW;rw[<-hW'];have HR:Hi (W.heap[w.heap.size]?=some (.cells #[nI 0,.string ⟨#[]⟩,nI 0,nI 0] 148 (0,0))):=by rw[hW];exact zR0 w
 have HW:Hi (W=Z4 w):=hW;clear hW hW';go_loopw [6] (λx wr=>∃(j:Nat),i<=j/\j<=s.size/\x=nI (j:Nat)/\Hi (n=(j-i)+DK BX (s.toList.drop j)/\∀k (h:k<s.size),i<=k->k<j->BX s[k]=true)/\wr=W) (λx _=>((s.size:Int)-intOf x).toNat)
 case atStart=>exact⟨i,Nat.le_refl _,Nat.le_of_lt HI.o,rfl,⟨by rw[HN.o];omega,λk h h1 h2=>by omega⟩,rfl⟩
 obtain⟨j,hij,hj,rfl,HJ,rfl⟩:=hrel;clear hi' hci hlc hdc hi;have hijI:(i:Int)<=(j:Int):=by omega
 obtain⟨f0,f1,f2,f3,z0,z1,z2,z3⟩:=za6 HR.o;have hlt:=za2 HR.o;have HSZ:Hi ((s.extract i j).size=j-i/\(s.extract i j).size<=1000000):=by have:=yq3 s hij hj;exact⟨this,by omega⟩
 have HDG:Hi (∀k (h:k<(s.extract i j).size),BX (s.extract i j)[k]=true):=λk h=>by rw[yA0 s hj h];exact HJ.o.2 _ _ (by omega) (by rw[HSZ.o.1]at h;omega)
 obtain⟨vl,hvl⟩:=qq (wh0 0 (s.extract i j).toList);have HVL:Hi (vl=wh0 0 (s.extract i j).toList):=hvl;clear hvl;obtain⟨sm,hsm0⟩:=qq (DY (s.extract i j).toList);have HS0:Hi (sm=DY (s.extract i j).toList):=hsm0;clear hsm0;by_cases hjl:j<s.size
 ·have hjl':(j:Int)<(s.size:Int):=za5 hjl
  have hjw:IntKind.i64.wrap ((j:Int)+1)=((j+1:Nat):Int):=zb3 oM;obtain⟨d,hd⟩:=qq (s[j]);have hdi:(s[j].toNat:Int)=(d.toNat:Int):=by rw[hd]
  cases hdd:BX d with
  | true =>
   have HE:Hi (n=(j+1-i)+DK BX (s.toList.drop (j+1))/\∀k (h:k<s.size),i<=k->k<j+1->BX s[k]=true):=by
    refine⟨by rw[HJ.o.1,zL0 hjl (by rw[<-hd];exact hdd)];omega,λk h h1 h2=>?_⟩;by_cases e:k=j
    ·subst e;rw[<-hd];exact hdd
    exact HJ.o.2 k h h1 oM
   clear hd
   go_wp2_with (first|(go_at_call 103;refine mq (ze9 d _) λw1 hw=>?_;replace hw:=hw.symm;subst hw;rw[hdd])|fail)
   go_roundw
   case rel=>exact⟨j+1,by omega,hjl,rfl,HE,trivial⟩
   case measure=>exact we3 hjl
  | false =>
   have HE:Hi (n=j-i):=by unfold Hi;rw[HJ.o.1,yf0 hjl (by rw[<-hd];exact hdd)];omega
   have HSM:Hi (sm=DY ((s.toList.drop i).take n)):=by unfold Hi;rw[HS0.o,ze5,HE.o]
   have HHD:Hi ((((s.toList.drop i).drop n).head?.map DA).getD false=DA d):=by unfold Hi;rw[List.drop_drop,show i+n=j by rw[HE.o];omega,zd7 s j hjl,<-hd];rfl
   clear hd
   cases hsmv:sm with
   | false =>
    have hsm:DY (s.extract i j).toList=false:=by rw[<-HS0.o];exact hsmv
    have HPP:Hi (BB (s.toList.drop i)=.inl 22):=by unfold Hi;rw[HP.o,if_pos];rw[Bool.or_eq_true];left;rw[<-HSM.o,hsmv];rfl
    go_wp2_with (first|(go_at_call 103;refine mq (ze9 d _) λw1 hw=>?_;replace hw:=hw.symm;subst hw;rw[hdd]) | (go_at_call 104;refine mq (zm3 (s.extract i j) HSZ.o.2 _) λw1 hw=>?_;replace hw:=hw.symm;subst hw;rw[hsm])|fail)
    (try simp only[Exit.inBlock,Exit.then]);refine bodyPost_ret (zc0 rfl _ _ (w.heap.size) 148 #[_,_,_,_] (0,0) _ rfl (zg2 HR.o _ _ _ _) Tryz.underlying148 rfl DZ) rfl ?_;refine⟨?_,by rw[HW.o];exact wd1 w _ _ _ _⟩;unfold CM;rw[HPP.o];rfl
   | true =>
    have hsm:DY (s.extract i j).toList=true:=by rw[<-HS0.o];exact hsmv
    cases hdl:DA d with
    | true =>
     have HPP:Hi (BB (s.toList.drop i)=.inl 22):=by unfold Hi;rw[HP.o,if_pos];rw[Bool.or_eq_true];right;rw[HHD.o,hdl]
     go_wp2_with (first|(go_at_call 103;refine mq (ze9 d _) λw1 hw=>?_;replace hw:=hw.symm;subst hw;rw[hdd]) | (go_at_call 104;refine mq (zm3 (s.extract i j) HSZ.o.2 _) λw1 hw=>?_;replace hw:=hw.symm;subst hw;rw[hsm]) | (go_at_call 102;refine mq (ze0 d _) λw1 hw=>?_;replace hw:=hw.symm;subst hw;rw[hdl])|fail)
     (try simp only[Exit.inBlock,Exit.then]);refine bodyPost_ret (zc0 rfl _ _ (w.heap.size) 148 #[_,_,_,_] (0,0) _ rfl (zg2 HR.o _ _ _ _) Tryz.underlying148 rfl DZ) rfl ?_;refine⟨?_,by rw[HW.o];exact wd1 w _ _ _ _⟩;unfold CM;rw[HPP.o];rfl
    | false =>
     have HPP:Hi (BB (s.toList.drop i)=.inr (1,(s.toList.drop i).take n,vl)):=by
      unfold Hi;rw[HP.o,if_neg,HVL.o,ze5,HE.o];rw[Bool.or_eq_true];rintro(h | h)
      ·rw[<-HSM.o,hsmv]at h;cases h
      rw[HHD.o,hdl]at h;cases h
     go_wp2_with (first|(go_at_call 103;refine mq (ze9 d _) λw1 hw=>?_;replace hw:=hw.symm;subst hw;rw[hdd]) | (go_at_call 104;refine mq (zm3 (s.extract i j) HSZ.o.2 _) λw1 hw=>?_;replace hw:=hw.symm;subst hw;rw[hsm]) | (go_at_call 102;refine mq (ze0 d _) λw1 hw=>?_;replace hw:=hw.symm;subst hw;rw[hdl])|fail)
     go_region_with (go_at_call 105;refine mq (zG3 (s.extract i j) HSZ.o.2 HDG.o _) λw1 hw=>?_;replace hw:=hw.symm;subst hw;rw[<-HVL.o])
     all_goals
      go_wp2_with fail;(try simp only[Exit.inBlock,Exit.then]);refine bodyPost_ret (zc0 rfl _ _ (w.heap.size) 148 #[_,_,_,_] (0,0) _ rfl (zg2 HR.o _ _ _ _) Tryz.underlying148 rfl DZ) rfl ?_;refine⟨?_,by rw[HW.o];exact(wd1 w _ _ _ _).draws 1⟩;unfold CM;rw[HPP.o];exact⟨s.extract i j,by rw[ze5,HE.o],rfl⟩
 have hjl':¬(j:Int)<(s.size:Int):=zb2 hjl;have HE:Hi (n=j-i):=by unfold Hi;rw[HJ.o.1,zL1 hjl];omega
 have HSM:Hi (sm=DY ((s.toList.drop i).take n)):=by unfold Hi;rw[HS0.o,ze5,HE.o]
 have HHD:Hi ((((s.toList.drop i).drop n).head?.map DA).getD false=false):=by unfold Hi;rw[List.drop_drop,show i+n=j by rw[HE.o];omega,zm2 s j hjl];rfl
 cases hsmv:sm with
 | false =>
  have hsm:DY (s.extract i j).toList=false:=by rw[<-HS0.o];exact hsmv
  have HPP:Hi (BB (s.toList.drop i)=.inl 22):=by unfold Hi;rw[HP.o,if_pos];rw[Bool.or_eq_true];left;rw[<-HSM.o,hsmv];rfl
  go_wp2_with (first|(go_at_call 104;refine mq (zm3 (s.extract i j) HSZ.o.2 _) λw1 hw=>?_;replace hw:=hw.symm;subst hw;rw[hsm])|fail)
  (try simp only[Exit.inBlock,Exit.then]);refine bodyPost_ret (zc0 rfl _ _ (w.heap.size) 148 #[_,_,_,_] (0,0) _ rfl (zg2 HR.o _ _ _ _) Tryz.underlying148 rfl DZ) rfl ?_;refine⟨?_,by rw[HW.o];exact wd1 w _ _ _ _⟩;unfold CM;rw[HPP.o];rfl
 | true =>
  have hsm:DY (s.extract i j).toList=true:=by rw[<-HS0.o];exact hsmv
  have HPP:Hi (BB (s.toList.drop i)=.inr (1,(s.toList.drop i).take n,vl)):=by
   unfold Hi;rw[HP.o,if_neg,HVL.o,ze5,HE.o];rw[Bool.or_eq_true];rintro(h | h)
   ·rw[<-HSM.o,hsmv]at h;cases h
   rw[HHD.o]at h;cases h
  go_wp2_with (first|(go_at_call 104;refine mq (zm3 (s.extract i j) HSZ.o.2 _) λw1 hw=>?_;replace hw:=hw.symm;subst hw;rw[hsm])|fail)
  go_region_with (go_at_call 105;refine mq (zG3 (s.extract i j) HSZ.o.2 HDG.o _) λw1 hw=>?_;replace hw:=hw.symm;subst hw;rw[<-HVL.o])
  all_goals
   go_wp2_with fail;(try simp only[Exit.inBlock,Exit.then]);refine bodyPost_ret (zc0 rfl _ _ (w.heap.size) 148 #[_,_,_,_] (0,0) _ rfl (zg2 HR.o _ _ _ _) Tryz.underlying148 rfl DZ) rfl ?_;refine⟨?_,by rw[HW.o];exact(wd1 w _ _ _ _).draws 1⟩;unfold CM;rw[HPP.o];exact⟨s.extract i j,by rw[ze5,HE.o],rfl⟩
end
section
open Go.RowKit
theorem zR1:∀b∈sgs,1<=b.size/\b.size<=2:=by decide
theorem zG4(h:k<22)(hn:((sgs[k]'h).toList==l.take (sgs[k]'h).size&&decide ((sgs[k]'h).size<=l.length))=false):ES (sgs.drop k) l=ES (sgs.drop (k+1)) l:=by rw[List.drop_eq_getElem_cons h];simp only[ES];rw[hn];rfl
theorem yq4(h:k<22)(hn:((sgs[k]'h).toList==l.take (sgs[k]'h).size&&decide ((sgs[k]'h).size<=l.length))=true):ES (sgs.drop k) l=some (sgs[k]'h):=by rw[List.drop_eq_getElem_cons h];simp only[ES];rw[hn];rfl
def Z5(w:World):World:=(Z4 w).alloc (.cells (sgs.map Value.string).toArray 9)
theorem yD7(w:World):(Z5 w).heap[w.heap.size]?=some (.cells #[nI 0,.string ⟨#[]⟩,nI 0,nI 0] 148 (0,0)):=heap_past _ _ _ (za2 (zR0 w)) (zR0 w)
theorem yA1(w:World):(Z4 w).heap.size=w.heap.size+1:=Array.size_push _
theorem yD8(w:World):(Z5 w).heap[w.heap.size+1]?=some (.cells (sgs.map Value.string).toArray 9 (0,0)):=heap_at _ _ _ (yA1 w).symm
theorem wr8(w:World):Ok w (Z5 w):=((Ok.refl w).alloc _).alloc _
theorem yq5(h:k<22)(hg:w.heap[g]?=some (.cells (sgs.map Value.string).toArray 9 (0,0))):w.cell? (aD g k)=some (.string (sgs[k]'h)):=by
 have hx:(sgs.map Value.string).toArray[k]?=some (.string (sgs[k]'h)):=by rw[List.getElem?_toArray,List.getElem?_map,List.getElem?_eq_getElem (show k<sgs.length from h)];rfl
 exact(cell_of_row _ _ k _ _ _ hg).trans hx
theorem yA2(h:i+b.size<=s.size):(b.toList==(s.toList.drop i).take b.size&&decide (b.size<=(s.toList.drop i).length))=((s.extract i (i+b.size)).toList==b.toList):=by rw[ze5,show i+b.size-i=b.size by omega,decide_eq_true (by rw[List.length_drop,zc2];omega),Bool.and_true];exact BEq.comm
theorem yq6(hi:i<s.size)(h:¬i+b.size<=s.size):(b.toList==(s.toList.drop i).take b.size&&decide (b.size<=(s.toList.drop i).length))=false:=by rw[decide_eq_false (by rw[List.length_drop,zc2];omega),Bool.and_false]
theorem yf5(h:Ok w w1)(x y z u:Value):Ok w ((((w1.setCell (aD w.heap.size 0) x).setCell (aD w.heap.size 1) y).setCell (aD w.heap.size 2) z).setCell (aD w.heap.size 3) u) :=
 (((h.set (p:=⟨w.heap.size,0,none⟩) (nR_ _) _).set (p:=⟨w.heap.size,1,none⟩) (nR_ _) _).set (p:=⟨w.heap.size,2,none⟩) (nR_ _) _).set (p:=⟨w.heap.size,3,none⟩) (nR_ _) _
theorem wm5(h:k<22):((22:Int)-intOf (nI ((k:Int)+1))).toNat<((22:Int)-intOf (nI (k:Int))).toNat:=by simp only[intOf];omega
def SW(w wr:World):Prop:=Ok w wr/\wr.heap[w.heap.size]?=some (.cells #[nI 0,.string ⟨#[]⟩,nI 0,nI 0] 148 (0,0))/\wr.heap[w.heap.size+1]?=some (.cells (sgs.map Value.string).toArray 9 (0,0))
theorem SW.draws(h:SW w wr)(n:Nat):SW w (wr.drewN n):=⟨h.1.draws n,h.2.1,h.2.2⟩
theorem zV5(s:ByteArray)(i:Nat)(hi:i<s.size)(hs:s.size<=1000000)(hl:DA s[i]=false)(hdg:BX s[i]=false)(w:World) :
  Calls Tryz.prog 68 #[.string s,nI (i:Nat)] w λe w'=>CM (s.toList.drop i) i e/\Ok w w':=by
 have hi':(i:Int)<(s.size:Int):=by omega
 obtain⟨c,hc⟩:=qq (s[i]);have HD:Hi (s.toList.drop i=c::s.toList.drop (i+1)):=by rw[hc];exact zd7 s i hi
 have hci:(s[i].toNat:Int)=(c.toNat:Int):=by rw[hc]
 have hlc:DA c=false:=by rw[hc];exact hl
 have hdc:BX c=false:=by rw[hc];exact hdg
 have HI:=hid hi
 have HP:Hi (BB (s.toList.drop i)=match ES sgs (s.toList.drop i) with | none=>.inl 20 | some x=>.inr (2,x.toList,0)):=by unfold Hi;rw[HD.o];simp only[BB,hlc,hdc];rfl
 clear hc hl hdg;go_enter Tryz.func68,Tryz.ntmps68
 go_wp2_with (first|(go_at_call 102;refine(ze0 c _).mono ?_;rintro e w1 ⟨rfl,hw⟩;replace hw:=hw.symm;subst hw;rw[hlc]) | (go_at_call 103;refine(ze9 c _).mono ?_;rintro e w1 ⟨rfl,hw⟩;replace hw:=hw.symm;subst hw;rw[hdc]) | (go_at_call 106;refine(yf3 _).mono ?_;rintro e w1 ⟨rfl,rfl⟩)|fail)
 obtain⟨W,hW⟩:=qq (Z5 w);have hW':W=(w.alloc (.cells #[nI 0,.string ⟨#[]⟩,nI 0,nI 0] 148)).alloc (.cells (sgs.map Value.string).toArray 9):=hW;rw[<-hW'];have HW:Hi (SW w W):=by unfold Hi;rw[hW];exact⟨wr8 w,yD7 w,yD8 w⟩
 clear hW hW';go_loopw [8] (λx wr=>∃(k:Nat),k<=22/\x=nI (k:Nat)/\Hi (ES sgs (s.toList.drop i)=ES (sgs.drop k) (s.toList.drop i))/\Hi (SW w wr)) (λx _=>((22:Int)-intOf x).toNat)
 case atStart=>exact⟨0,zL_ _,rfl,rfl,HW⟩
 obtain⟨k,hk,rfl,HK,HW⟩:=hrel;clear hi' hci hlc hdc hi;obtain⟨f0,f1,f2,f3,z0,z1,z2,z3⟩:=za6 HW.o.2.1;have hlt:=za2 HW.o.2.1;by_cases hkl:k<22
 ·have hkl':(k:Int)<22:=by omega
  have hkw:IntKind.i64.wrap ((k:Int)+1)=((k+1:Nat):Int):=zb3 oM;have hcell:=yq5 hkl HW.o.2.2;obtain⟨b,hb⟩:=qq (sgs[k]'hkl);rw[<-hb]at hcell;have HB:Hi (b=sgs[k]'hkl/\1<=b.size/\b.size<=2):=⟨hb,zR1 b (by rw[hb];exact List.getElem_mem _)⟩;clear hb;obtain⟨m,hm⟩:=qq (i+b.size);have hbw:IntKind.i64.wrap ((i:Int)+(b.size:Int))=(m:Int):=zd3 oM (by have:=HB.o;have:=HI.o;omega);have hib:(i:Int)<=(m:Int):=by omega
  have HM:Hi (m=i+b.size):=hm;clear hm;by_cases hle:m<=s.size
  ·have hle':decide (m<=s.size)=true:=dT_ hle
   have hleI:(m:Int)<=(s.size:Int):=by omega
   have HS:=yA2 (b:=b) (i:=i) (s:=s) (by rw[<-HM.o];exact hle);rw[<-HM.o]at HS
   cases he:((s.extract i m).toList==b.toList) with
   | true =>
    have HPP:Hi (BB (s.toList.drop i)=.inr (2,b.toList,0)):=by unfold Hi;rw[HP.o,HK.o,yq4 hkl (by rw[<-HB.o.1,HS,he]),HB.o.1]
    clear HS;go_wp2_with fail;go_quiet (fail);go_wp2_with fail;(try simp only[Exit.inBlock,Exit.then]);refine bodyPost_ret (zc0 rfl _ _ (w.heap.size) 148 #[_,_,_,_] (0,0) _ rfl (zg2 (HW.o.draws _).2.1 _ _ _ _) Tryz.underlying148 rfl DZ) rfl ?_;refine⟨?_,yf5 (HW.o.draws _).1 _ _ _ _⟩;unfold CM;rw[HPP.o];exact⟨b,rfl,rfl⟩
   | false =>
    have HN:Hi (ES sgs (s.toList.drop i)=ES (sgs.drop (k+1)) (s.toList.drop i)):=by unfold Hi;rw[HK.o,zG4 hkl (by rw[<-HB.o.1,HS,he])]
    clear HS;go_wp2_with fail;go_quiet (fail);go_wp2_with fail;exact⟨⟨k+1,hkl,rfl,HN,HW.o.draws _⟩,wm5 hkl⟩
  have hle':decide (m<=s.size)=false:=dF_ hle;have hleI:¬(m:Int)<=(s.size:Int):=by omega
  have HN:Hi (ES sgs (s.toList.drop i)=ES (sgs.drop (k+1)) (s.toList.drop i)):=by unfold Hi;rw[HK.o,zG4 hkl (by rw[<-HB.o.1];exact yq6 HI.o (by rw[<-HM.o];exact hle))]
  go_wp2_with fail;go_quiet (fail);go_wp2_with fail;exact⟨⟨k+1,hkl,rfl,HN,HW.o.draws _⟩,wm5 hkl⟩
 have hk22:k=22:=by omega
 subst hk22;have HPP:Hi (BB (s.toList.drop i)=.inl 20):=by unfold Hi;rw[HP.o,HK.o];rfl
 go_wp2_with fail;(try simp only[Exit.inBlock,Exit.then]);refine bodyPost_ret (zc0 rfl _ _ (w.heap.size) 148 #[_,_,_,_] (0,0) _ rfl (zg2 HW.o.2.1 _ _ _ _) Tryz.underlying148 rfl DZ) rfl ?_;refine⟨?_,yf5 HW.o.1 _ _ _ _⟩;unfold CM;rw[HPP.o];rfl
theorem zG5(s:ByteArray)(i:Nat)(hi:i<s.size)(hs:s.size<=1000000)(w:World) :
  Calls Tryz.prog 68 #[.string s,nI (i:Nat)] w λe w'=>CM (s.toList.drop i) i e/\Ok w w':=by
 cases hl:DA s[i] with
 | true=>exact zV4 s i hi hs hl w
 | false =>
  cases hd:BX s[i] with
  | true=>exact yf4 s i hi hs hl hd w
  | false=>exact zV5 s i hi hs hl hd w
end
section
open Go.RowKit
abbrev Tk:=Nat×List UInt8×Int×Nat
def wb0:Nat->List UInt8->Nat->(Nat×Nat)⊕List Tk
 | 0,_,_=>.inr []
 | fuel+1,l,i =>
  match l with
  | []=>.inr []
  | _::_ =>
   if 0<EL l then wb0 fuel (l.drop (EL l)) (i+EL l)
   else match BB l with
    | .inl e=>.inl (e,i)
    | .inr (k,t,n) =>
     match wb0 fuel (l.drop t.length) (i+t.length) with
     | .inl e=>.inl e
     | .inr r=>.inr ((k,t,n,i)::r)
def DS(l:List UInt8):(Nat×Nat)⊕List Tk:=if 8192<l.length then .inl (21,8192) else wb0 (l.length+1) l 0
def wb2(xs:List Value):List Tk->Prop
 | []=>xs=[]
 |(k,t,n,i)::r=>∃(b:ByteArray) (ys:List Value),b.toList=t/\xs=nI (k:Nat)::.string b::nI n::nI (i:Nat)::ys/\wb2 ys r
theorem wb2.add:∀{ts:List Tk} {xs:List Value} {k i:Nat} {b:ByteArray} {n:Int},wb2 xs ts->wb2 (xs++[nI (k:Nat),.string b,nI n,nI (i:Nat)]) (ts++[(k,b.toList,n,i)])
 | [],xs,k,i,b,n,h=>by have:xs=[]:=h;subst this;exact⟨b,[],rfl,rfl,rfl⟩
 |(k',t',n',i')::r,xs,k,i,b,n,h=>by obtain⟨b',ys,h1,h2,h3⟩:=h;exact⟨b',_,h1,by rw[h2];rfl,wb2.add h3⟩
theorem wb2.len:∀{ts:List Tk} {xs:List Value},wb2 xs ts->xs.length=ts.length*4
 | [],xs,h=>by have:xs=[]:=h;subst this;rfl
 |(k',t',n',i')::r,xs,h=>by obtain⟨b',ys,h1,h2,h3⟩:=h;rw[h2];simp[wb2.len h3];omega
theorem zG6(h:BB l=.inr (k,t,n)):1<=t.length/\t.length<=l.length:=by
 cases l with
 | nil=>cases h
 | cons c r =>
  simp only[BB]at h
  split at h
  ·next hl =>
   have hr:DK okc (c::r)=DK okc r+1:=by simp[DK,okc,hl]
   split at h
   ·cases h
   cases h;rw[List.length_take];have:=zA5 okc (c::r);omega
  split at h
  ·next hd =>
   have hr:DK BX (c::r)=DK BX r+1:=by simp[DK,hd]
   split at h
   ·cases h
   cases h;rw[List.length_take];have:=zA5 BX (c::r);omega
  split at h
  ·cases h
  next x hx =>
  cases h
  have key:∀(ss:List ByteArray),(∀b∈ss,1<=b.size/\b.size<=2)->ES ss (c::r)=some x->1<=x.size/\x.size<=(c::r).length:=by
   intro ss
   induction ss with
   | nil=>intro _ h;cases h
   | cons y ys ih =>
    intro hy h;simp only[ES]at h
    split at h
    ·next hb =>
     cases h;rw[Bool.and_eq_true,decide_eq_true_eq]at hb;exact⟨(hy _ (List.mem_cons_self)).1,hb.2⟩
    exact ih (λb hb=>hy b (List.mem_cons_of_mem _ hb)) h
  have:=key sgs zR1 hx;rw[zc2];exact this
theorem yA3:∀(l:List UInt8),EL l<=l.length
 | []=>nR_ _
 | c::r=>by
  have:=zA5 wk5 (c::r);simp only[EL]
  split
  ·simp
  split
  ·exact this
  exact zL_ _
theorem zA6(hl:l≠[])(h:0<EL l):wb0 (fuel+1) l i=wb0 fuel (l.drop (EL l)) (i+EL l):=by
 cases l with
 | nil=>exact absurd rfl hl
 | cons c r=>simp only[wb0];rw[if_pos h]
theorem zA7(hl:l≠[])(h:¬0<EL l)(hp:BB l=.inl e):wb0 (fuel+1) l i=.inl (e,i):=by
 cases l with
 | nil=>exact absurd rfl hl
 | cons c r=>simp only[wb0];rw[if_neg h,hp]
theorem zA8(hl:l≠[])(h:¬0<EL l)(hp:BB l=.inr (k,t,n)):wb0 (fuel+1) l i=match wb0 fuel (l.drop t.length) (i+t.length) with | .inl e=>.inl e | .inr r=>.inr ((k,t,n,i)::r):=by
 cases l with
 | nil=>exact absurd rfl hl
 | cons c r=>simp only[wb0];rw[if_neg h,hp]
def wl3(ts:List Tk):(Nat×Nat)⊕List Tk->(Nat×Nat)⊕List Tk
 | .inl e=>.inl e
 | .inr r=>.inr (ts++r)
theorem yf6(ts:List Tk)(x:Tk)(y:(Nat×Nat)⊕List Tk):wl3 ts (match y with | .inl e=>.inl e | .inr r=>.inr (x::r))=wl3 (ts++[x]) y:=by
 cases y with
 | inl e=>rfl
 | inr r=>simp[wl3]
def we4(w:World)(l:List UInt8)(e:Ending)(w':World):Prop :=
 match DS l with
 | .inl (er,at0)=>e=.returned (.tuple #[sZ,nI (er:Nat),nI (at0:Nat)])
 | .inr ts=>∃v xs,e=.returned (.tuple #[v,nI 0,nI 0])/\w'.ownsRow w.heap.size 148 4 v ts.length xs/\wb2 xs ts
theorem yq7(x:(Nat×Nat)⊕List Tk):wl3 [] x=x:=by cases x<;>rfl
theorem zG7(h:BB l=.inl e):20<=e:=by
 cases l with
 | nil=>cases h;decide
 | cons c r =>
  simp only[BB]at h
  repeat' split at h
  all_goals cases h
  all_goals decide
theorem wm6:(Tryz.prog.info? 148).map (λi=>(i.zero,i.size,i.bytes))=some (some (.agg #[nI 0,.string ⟨#[]⟩,nI 0,nI 0]),4,40):=by kernel_rfl
theorem yq8{w4:World}{x y z u:Value}{o:Obj}{own:Option Nat}(hg:((w1.alloc (.cells #[x,y,z,u] 148)).alloc o).grownBy w4 own)(ho:∀b,own=some b->b<w1.heap.size):w4.cell? (aD w1.heap.size 1)=some y:=by have h0:((w1.alloc (.cells #[x,y,z,u] 148)).alloc o).heap[w1.heap.size]?=some (.cells #[x,y,z,u] 148 (0,0)):=heap_past _ _ _ (za2 (za3 _ _)) (za3 _ _);have h1:w4.heap[w1.heap.size]?=some (.cells #[x,y,z,u] 148 (0,0)):=(hg.block _ (za2 h0) (λe=>by have:=ho _ e.symm;omega)).trans h0;exact(za6 h1).2.1
def TR(s:ByteArray)(xs:List Value)(N0 j:Nat):Prop :=
 ∃ts fuel,wb2 xs ts/\N0=ts.length/\N0<=j/\s.size-j<fuel/\DS s.toList=wl3 ts (wb0 fuel (s.toList.drop j) j)
def TI(w:World)(s:ByteArray)(wr:World)(v:Value)(N0 j:Nat):Prop :=
 Ok w wr/\∃xs,wr.ownsRow w.heap.size 148 4 v N0 xs/\TR s xs N0 j
theorem zL2(h:j<s.size):s.toList.drop j≠[]:=by rw[zd7 s j h];exact List.cons_ne_nil _ _
theorem TI.blank{m:Nat}(h:TI w s wr v N0 j)(hl:s.toList.length=s.size)(hj:j<s.size)(hb:0<EL (s.toList.drop j))(hm:m=j+EL (s.toList.drop j)):TI w s wr v N0 m:=by
 obtain⟨h0,xs,h1,ts,fuel,h2,h3,h4,h5,h6⟩:=h
 cases fuel with
 | zero=>omega
 | succ f =>
  refine⟨h0,xs,h1,ts,f,h2,h3,by omega,by omega,?_⟩;rw[h6,zA6 (zL2 hj) hb,List.drop_drop,hm]
theorem TI.bad(h:TI w s wr v N0 j)(hl:s.toList.length=s.size)(hj:j<s.size)(hb:¬0<EL (s.toList.drop j))(hp:BB (s.toList.drop j)=.inl e):DS s.toList=.inl (e,j):=by
 obtain⟨h0,xs,h1,ts,fuel,h2,h3,h4,h5,h6⟩:=h
 cases fuel with
 | zero=>omega
 | succ f=>rw[h6,zA7 (zL2 hj) hb hp];rfl
theorem TI.done(h:TI w s wr v N0 j)(hl:s.toList.length=s.size)(hj:¬j<s.size):∃ts xs,DS s.toList=.inr ts/\wr.ownsRow w.heap.size 148 4 v ts.length xs/\wb2 xs ts:=by
 obtain⟨h0,xs,h1,ts,fuel,h2,h3,h4,h5,h6⟩:=h;refine⟨ts,xs,?_,by rw[<-h3];exact h1,h2⟩
 cases fuel with
 | zero=>omega
 | succ f=>rw[h6,zm2 s j hj];simp[wb0,wl3]
theorem TR.more(h:TR s xs N0 j)(hl:s.toList.length=s.size)(hj:j<s.size)(hb:¬0<EL (s.toList.drop j))(hp:BB (s.toList.drop j)=.inr (k,t,n))(hbt:b.toList=t) :
  TR s (xs++[nI (k:Nat),.string b,nI n,nI (j:Nat)]) (N0+1) (j+b.size)/\1<=b.size/\b.size<=s.size-j:=by
 obtain⟨ts,fuel,h2,h3,h4,h5,h6⟩:=h;have hlen:=zG6 hp;have hbs:t.length=b.size:=by rw[<-hbt,zc2]
 rw[hbs,List.length_drop,hl]at hlen;refine⟨?_,hlen⟩
 cases fuel with
 | zero=>omega
 | succ f =>
  refine⟨ts++[(k,b.toList,n,j)],f,h2.add,by rw[List.length_append,h3];rfl,by omega,by omega,?_⟩;rw[h6,zA8 (zL2 hj) hb hp,yf6,List.drop_drop,hbs,hbt]
theorem za1{w':World}{B:Nat}{e:TypeId}{s n:Nat}(h:w.ownsRow B e s v n xs)(hk:Ok w w'):w'.ownsRow B e s v n xs:=zb4 h λb hb=>Below.block hk b (h.lt b hb).2
theorem Ok.grown{w0 w':World}{own:Option Nat}(h:Ok w0 w)(hg:w.grownBy w' own)(ho:∀b,own=some b->w0.heap.size<=b):Ok w0 w':=by have hb:Below w0.heap.size w0 w:=h;have:=hb.size;refine⟨hg.os.trans hb.os,hg.tape.trans hb.tape,hg.output.trans hb.output,Nat.le_trans hb.size hg.size,λk hk=>?_⟩;exact(hg.block k oM (λe=>by have:=ho k e.symm;omega)).trans (hb.block k hk)
theorem yq9{w4:World}{v':Value}{N0 m k:Nat}{tx:List UInt8}{o:Obj}(hs:s.size<=1000000)(h:Ok w wr)(how:wr.ownsRow w.heap.size 148 4 v N0 xs)(htr:TR s xs N0 m)(hok:Ok wr w1)(hj:m<s.size)(hl:s.toList.length=s.size)(hb:¬0<EL (s.toList.drop m))(hp:BB (s.toList.drop m)=.inr (k,tx,n))(hbt:b.toList=tx)
  (hg:((w1.alloc (.cells #[nI (k:Nat),.string b,nI n,nI (m:Nat)] 148)).alloc o).grownBy w4 v.ownBlock) (ho4:w4.ownsRow w.heap.size 148 4 v' (N0+1) (xs++[nI (k:Nat),.string b,nI n,nI (m:Nat)])) :
  w1.heap.size<w4.heap.size/\w4.cell? (aD w1.heap.size 1)=some (.string b)/\IntKind.i64.wrap ((m:Int)+(b.size:Int))=((m+b.size:Nat):Int)/\(TI w s w4 v' (N0+1) (m+b.size)/\m+b.size<=s.size/\1<=b.size):=by
 have hfin:=htr.more hl hj hb hp hbt;have h1:=hg.size;have h2:((w1.alloc (.cells #[nI (k:Nat),.string b,nI n,nI (m:Nat)] 148)).alloc o).heap.size=w1.heap.size+1+1:=by rw[show ∀(z:World) (o:Obj),(z.alloc o).heap.size=z.heap.size+1 from λz o=>Array.size_push _,show ∀(z:World) (o:Obj),(z.alloc o).heap.size=z.heap.size+1 from λz o=>Array.size_push _]
 refine⟨by omega,yq8 hg (λb hb=>lL_ (how.lt b hb).2 hok.le),zd3 oM oM,⟨?_,_,ho4,hfin.1⟩,by omega,hfin.2.1⟩;exact(((h.step hok).alloc _).alloc _).grown hg (λb hb=>(how.lt b hb).1)
theorem zx8(s:ByteArray)(w:World) :
  Calls Tryz.prog 38 #[.string s] w λe w'=>we4 w s.toList e w'/\Ok w w':=by
 have HL:=hid (zc2 s);by_cases h8:8192<s.size
 ·have h8':(8192:Int)<(s.size:Int):=by omega
  have HX:Hi (DS s.toList=.inl (21,8192)):=by unfold Hi DS;rw[HL.o,if_pos h8]
  clear h8;go_enter Tryz.func38,Tryz.ntmps38;go_wp2_with fail;(try simp only[Exit.inBlock,Exit.then]);refine bodyPost_ret (results_tmp3 rfl _ _ _) rfl ?_;refine⟨?_,Ok.refl w⟩;unfold we4;rw[HX.o];rfl
 have hs:s.size<=1000000:=by omega
 have h8':¬(8192:Int)<(s.size:Int):=by omega
 have HX:Hi (DS s.toList=wb0 (s.size+1) s.toList 0):=by unfold Hi DS;rw[HL.o,if_neg h8]
 have HS:=hid (Nat.le_of_not_lt h8);clear h8;go_enter Tryz.func38,Tryz.ntmps38;go_wp2_with fail;go_loopw [5,6] (λo x wr=>∃(j N0:Nat) (oo:Option Addr) (oc:Nat),j<=s.size/\o=.slice oo N0 oc/\x=nI (j:Nat)/\Hi (TI w s wr (.slice oo N0 oc) N0 j)) (λ_ x _=>((s.size:Int)-intOf x).toNat)
 case atStart=>exact⟨0,0,none,0,Nat.zero_le _,rfl,rfl,Ok.refl w,[],World.ownsRow_nil _ _ _ _,[],s.size+1,rfl,rfl,Nat.le_refl _,by omega,by rw[HX.o];exact(yq7 _).symm⟩
 obtain⟨j,N0,oo,oc,hj,rfl,rfl,HJ⟩:=hrel;by_cases hjl:j<s.size
 ·have hjl':(j:Int)<(s.size:Int):=za5 hjl
  obtain⟨b0,hb0⟩:=qq (EL (s.toList.drop j));have hble:b0<=s.size-j:=by rw[hb0];refine Nat.le_trans (yA3 _) ?_;rw[List.length_drop,HL.o];exact Nat.le_refl _
  have HB0:Hi (b0=EL (s.toList.drop j)/\b0<=s.size-j):=⟨hb0,hble⟩;have HJL:=hid hjl;obtain⟨m,hm⟩:=qq (j+b0);have HM:Hi (m=j+b0):=hm;by_cases hpos:0<b0
  ·have hmj:(j:Int)<(m:Int):=by omega
   have HN:Hi (TI w s wr (.slice oo N0 oc) N0 m):=TI.blank HJ.o HL.o hjl (by rw[<-hb0];exact hpos) (by rw[hm,hb0]);have hms:m<=s.size:=by omega
   clear hb0 hble hm hpos
   go_wp2_with (go_at_call 67;refine mq (zq0 s j HJL.o hs _) λw1 hw=>?_;replace hw:=hw.symm;subst hw;rw[<-HB0.o.1,<-HM.o])
   go_roundw
   case rel=>exact⟨m,N0,oo,oc,hms,rfl,rfl,HN⟩
   case measure=>simp only[intOf];omega
  have hmj:m=j:=by omega
  have HNB:Hi (¬0<EL (s.toList.drop j)):=by rw[<-hb0];exact hpos
  subst hmj;clear hb0 hble hm hpos
  cases hps:BB (s.toList.drop m) with
  | inl er =>
   have her:((er:Int) != 0)=true:=by have:=zG7 hps;rw[bne_iff_ne];omega
   have HPS:=hid hps;have HE:=hid (TI.bad HJ.o HL.o hjl HNB.o hps);clear hps
   go_wp2_with (first
    |(go_at_call 67;refine mq (zq0 s m HJL.o hs _) λw1 hw=>?_;replace hw:=hw.symm;subst hw;rw[<-HB0.o.1,<-HM.o])
    |(go_at_call 68;refine(zG5 s m HJL.o hs _).mono ?_;rintro e w1 ⟨hp,hok⟩;unfold CM at hp;rw[HPS.o]at hp;unfold wr7 at hp;subst hp;have HOK:=hid hok;clear hok)
    | fail)
   (try simp only[Exit.inBlock,Exit.then]);refine bodyPost_ret (results_tmp3 rfl _ _ _) rfl ?_;refine⟨?_,?_⟩
   ·unfold we4;rw[HE.o];rfl
   exact(HJ.o.1.step HOK.o).alloc _
  | inr p =>
   obtain⟨k,tx,n⟩:=p;have HPS:=hid hps;clear hps;obtain⟨xs,hown,htr⟩:=HJ.o.2;have HOW:=hid hown;have HTR:=hid htr;have hN0:N0<=8192:=by obtain⟨_,_,_,_,h,_⟩:=htr;have:=HS.o;omega
   have HN63:Hi (N0+1<=maxLen/\(N0+1)*40<=140737488355328):=by unfold Hi maxLen;omega
   have HLT:Hi (∀b,(Value.slice oo N0 oc).ownBlock=some b->w.heap.size<=b/\b<wr.heap.size):=λb hb=>hown.lt b hb;clear hown htr hN0;obtain⟨i0,hi0,hz0,hz1,hz2⟩:=zg6 wm6
   go_wp2_with (first
    |(go_at_call 67;refine mq (zq0 s m HJL.o hs _) λw1 hw=>?_;replace hw:=hw.symm;subst hw;rw[<-HB0.o.1,<-HM.o])
    |(go_at_call 68;refine(zG5 s m HJL.o hs _).mono ?_;rintro e w1 ⟨hp,hok⟩;unfold CM at hp;rw[HPS.o]at hp;obtain⟨b,hb,rfl⟩:=hp;have HOK:=hid hok;have HBT:=hid hb;clear hok hb)
    |(at_builtin;refine wpList_append_lies _ rfl _ _ 100 rfl w.heap.size 148 i0 _ 4 40 Tryz.underlying100 hi0 hz0 hz1 hz2 rfl (by decide) _ N0 xs (by rfl) (World.ownsRow.alloc (World.ownsRow.alloc (za1 HOW.o HOK.o) _) _) ⟨w1.heap.size+1,0,none⟩ 1 1 [nI (k:Nat),.string b,nI n,nI (m:Nat)] (by rfl) rfl (by intro j u hj;exact zA4 (heap_at _ _ _ (by simp)) j u hj) (by simp[Value.oneCell']) (by decide) HN63.o.1 HN63.o.2 (by have:=HJ.o.1.le;have:=HOK.o.le;simp;omega) (w1.heap.size+2) (by simp) ?_;intro gg capg w4 hown4 hgrow hat4 hlt4;have HO4:=hid hown4;have HG4:=hid hgrow;obtain⟨hlt1,c1,hmw,hf⟩:=yq9 hs HJ.o.1 HOW.o HTR.o HOK.o HJL.o HL.o HNB.o HPS.o HBT.o HG4.o HO4.o;have HF:=hid hf;clear hown4 hgrow hat4 hf)
    | fail)
   go_roundw
   case rel=>exact⟨m+b.size,N0+1,_,_,HF.o.2.1,rfl,rfl,HF.o.1⟩
   case measure=>have:=HF.o.2;simp only[intOf];omega
 have hjl':¬(j:Int)<(s.size:Int):=zb2 hjl;have HE:=hid (TI.done HJ.o HL.o hjl);go_wp2_with fail;(try simp only[Exit.inBlock,Exit.then]);refine bodyPost_ret (results_tmp3 rfl _ _ _) rfl ?_;refine⟨?_,HJ.o.1⟩;unfold we4;obtain⟨ts,xs,h1,h2,h3⟩:=HE.o;rw[h1];exact⟨_,xs,rfl,h2,h3⟩
end
end Go.Proofs.YtpongdpnbclchaaGreatDoor
