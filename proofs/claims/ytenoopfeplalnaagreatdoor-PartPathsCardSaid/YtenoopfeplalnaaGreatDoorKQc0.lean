import Derived.Test.YtenoopfeplalnaaGreatDoorKLb
set_option maxHeartbeats 8000000
set_option linter.all false
namespace Go.Proofs.YtenoopfeplalnaaGreatDoor
section
open Go.RowKit
def sgs:List ByteArray:=[⟨#[60,61]⟩,⟨#[62,61]⟩,⟨#[61,61]⟩,⟨#[33,61]⟩,⟨#[38,38]⟩,⟨#[124,124]⟩,⟨#[58,61]⟩,⟨#[43]⟩,⟨#[45]⟩,⟨#[42]⟩,⟨#[47]⟩,⟨#[37]⟩,⟨#[60]⟩,⟨#[62]⟩,⟨#[33]⟩,⟨#[40]⟩,⟨#[41]⟩,⟨#[91]⟩,⟨#[93]⟩,⟨#[123]⟩,⟨#[125]⟩,⟨#[59]⟩]
theorem yi0 (w:World):Calls Tryz.prog 92 #[] w fun e w'=>e=.returned (.slice (some ⟨w.heap.size,0,none⟩) 22 22)/\w'=w.alloc (.cells (sgs.map Value.string).toArray 9):=by
 go_enter Tryz.func92,Tryz.ntmps92
 go_wp2_with fail
 go_ret
 exact ⟨rfl,rfl⟩
def okc (c:UInt8):Bool:=isLet c||isDig c
def signF:List ByteArray->List UInt8->Option ByteArray
 | [],_=>none
 | x::r,l=>if x.toList==l.take x.size&&decide (x.size<=l.length) then some x else signF r l
def pieceS (l:List UInt8):Nat⊕(Nat×List UInt8×Int) :=
 match l with
 | []=>.inl 20
 | c::r =>
  if isLet c then (if 16<runF okc l then .inl 21 else .inr (0,l.take (runF okc l),0))
  else if isDig c then
   (if !smallS (l.take (runF isDig l))||((l.drop (runF isDig l)).head?.map isLet).getD false then .inl 22 else .inr (1,l.take (runF isDig l),valF 0 (l.take (runF isDig l))))
  else match signF sgs l with
   | none=>.inl 20
   | some x=>.inr (2,x.toList,0)
def tok0:Value:=.agg #[.int .i64 0,.string ⟨#[]⟩,.int .i64 0,.int .i64 0]
def PieceIs (l:List UInt8) (i:Nat) (e:Ending):Prop :=
 match pieceS l with
 | .inl err=>e=.returned (.tuple #[tok0,.int .i64 (err:Nat)])
 | .inr (k,t,n)=>∃ b:ByteArray,b.toList=t/\e=.returned (.tuple #[.agg #[.int .i64 (k:Nat),.string b,.int .i64 n,.int .i64 (i:Nat)],.int .i64 0])
theorem zg5 {w:World} {g:Nat} {a b c d:Value} {t:TypeId} (hg:w.heap[g]?=some (.cells #[a,b,c,d] t (0,0))) (x y z u:Value):((((w.setCell ⟨g,0,none⟩ x).setCell ⟨g,1,none⟩ y).setCell ⟨g,2,none⟩ z).setCell ⟨g,3,none⟩ u).heap[g]?=some (.cells #[x,y,z,u] t (0,0)):=by
 have h1:=heap_setCell_same w g 0 _ t x hg
 have h2:=heap_setCell_same _ g 1 _ t y h1
 have h3:=heap_setCell_same _ g 2 _ t z h2
 have h4:=heap_setCell_same _ g 3 _ t u h3
 simpa using h4
theorem za7 {w:World} {g:Nat} {a b c d:Value} {t:TypeId} (h:w.heap[g]?=some (.cells #[a,b,c,d] t (0,0))) :
  w.cell? ⟨g,0,none⟩=some a/\w.cell? ⟨g,1,none⟩=some b/\w.cell? ⟨g,2,none⟩=some c/\w.cell? ⟨g,3,none⟩=some d/\w.frozen? ⟨g,0,none⟩=false/\w.frozen? ⟨g,1,none⟩=false/\w.frozen? ⟨g,2,none⟩=false/\w.frozen? ⟨g,3,none⟩=false:=by
 refine ⟨?_,?_,?_,?_,frozen_of_row _ _ _ _ _ h,frozen_of_row _ _ _ _ _ h,frozen_of_row _ _ _ _ _ h,frozen_of_row _ _ _ _ _ h⟩
 ·exact (cell_of_row _ _ 0 _ _ _ h).trans (by simp)
 ·exact (cell_of_row _ _ 1 _ _ _ h).trans (by simp)
 ·exact (cell_of_row _ _ 2 _ _ _ h).trans (by simp)
 ·exact (cell_of_row _ _ 3 _ _ _ h).trans (by simp)
theorem infoTok:(Tryz.prog.info? 140).map (·.size)=some 4:=by kernel_rfl
def Z4 (w:World):World:=w.alloc (.cells #[.int .i64 0,.string ⟨#[]⟩,.int .i64 0,.int .i64 0] 140)
theorem zP8 (w:World):(Z4 w).heap[w.heap.size]?=some (.cells #[.int .i64 0,.string ⟨#[]⟩,.int .i64 0,.int .i64 0] 140 (0,0)):=za4 _ _
theorem Z4_ok (w:World) (x y z u:Value):Ok w ((((Z4 w).setCell ⟨w.heap.size,0,none⟩ x).setCell ⟨w.heap.size,1,none⟩ y).setCell ⟨w.heap.size,2,none⟩ z |>.setCell ⟨w.heap.size,3,none⟩ u) :=
 (((((Ok.refl w).alloc _).set (p:=⟨w.heap.size,0,none⟩) (Nat.le_refl _) _).set (p:=⟨w.heap.size,1,none⟩) (Nat.le_refl _) _).set (p:=⟨w.heap.size,2,none⟩) (Nat.le_refl _) _).set (p:=⟨w.heap.size,3,none⟩) (Nat.le_refl _) _
set_option maxRecDepth 100000 in
theorem zU6 (s:ByteArray) (i:Nat) (hi:i<s.size) (hs:s.size<=1000000) (hl:isLet s[i]=true) (w:World) :
  Calls Tryz.prog 54 #[.string s,.int .i64 (i:Nat)] w fun e w'=>PieceIs (s.toList.drop i) i e/\Ok w w':=by
 have hi':(i:Int)<(s.size:Int):=by omega
 obtain ⟨c,hc⟩:∃ c,c=s[i]:=⟨_,rfl⟩
 have HD:Hid (s.toList.drop i=c::s.toList.drop (i+1)):=by unfold Hid;rw [hc];exact zd7 s i hi
 have hci:(s[i].toNat:Int)=(c.toNat:Int):=by rw [hc]
 have hlc:isLet c=true:=by rw [hc];exact hl
 have HI:=hid hi
 obtain ⟨n,hn⟩:∃ n,n=runF okc (s.toList.drop i):=⟨_,rfl⟩
 have HP:Hid (pieceS (s.toList.drop i)=if 16<n then .inl 21 else .inr (0,(s.toList.drop i).take n,0)):=by
  unfold Hid
  rw [hn,HD.out]
  simp only [pieceS,hlc,if_true]
 have HN:Hid (n=runF okc (s.toList.drop i)):=hn
 clear hn hc hl
 go_enter Tryz.func54,Tryz.ntmps54
 go_wp2_with (go_at_call 88;refine (ze0 c _).mono ?_;rintro e w1 ⟨rfl,hw⟩;replace hw:=hw.symm;subst hw;rw [hlc])
 obtain ⟨W,hW⟩:∃ W,W=Z4 w:=⟨_,rfl⟩
 have hW':W=w.alloc (.cells #[.int .i64 0,.string ⟨#[]⟩,.int .i64 0,.int .i64 0] 140):=hW
 rw [<-hW']
 have HR:Hid (W.heap[w.heap.size]?=some (.cells #[.int .i64 0,.string ⟨#[]⟩,.int .i64 0,.int .i64 0] 140 (0,0))):=by unfold Hid;rw [hW];exact zP8 w
 have HW:Hid (W=Z4 w):=hW
 clear hW hW'
 go_loopw [6] (fun x wr=>∃ (j:Nat),i<=j/\j<=s.size/\x=.int .i64 (j:Nat)/\Hid (n=(j-i)+runF okc (s.toList.drop j))/\wr=W) (fun x _=>((s.size:Int)-intOf x).toNat)
 case atStart=>exact ⟨i,Nat.le_refl _,Nat.le_of_lt HI.out,rfl,by unfold Hid;rw [HN.out];omega,rfl⟩
 case round =>
  obtain ⟨j,hij,hj,rfl,HJ,rfl⟩:=hrel
  clear hi' hci hlc hi
  by_cases hjl:j<s.size
  ·have hjl':(j:Int)<(s.size:Int):=za6 hjl
   have hjw:IntKind.i64.wrap ((j:Int)+1)=((j+1:Nat):Int):=zb6 (by omega)
   obtain ⟨d,hd⟩:∃ d,d=s[j]:=⟨_,rfl⟩
   have hdi:(s[j].toNat:Int)=(d.toNat:Int):=by rw [hd]
   cases ho:okc d with
   | true =>
    have HE:Hid (n=(j+1-i)+runF okc (s.toList.drop (j+1))):=by
     unfold Hid;rw [HJ.out,zK4 hjl (by rw [<-hd];exact ho)];omega
    clear hd
    cases hdl:isLet d with
    | true =>
     clear ho
     go_wp2_with (go_at_call 88;refine (ze0 d _).mono ?_;rintro e w1 ⟨rfl,hw⟩;replace hw:=hw.symm;subst hw;rw [hdl])
     go_roundw
     case rel=>exact ⟨j+1,by omega,hjl,rfl,HE,trivial⟩
     case measure=>exact meas hjl
    | false =>
     have hdd:isDig d=true:=by unfold okc at ho;rw [hdl] at ho;simpa using ho
     clear ho
     go_wp2_with (first | (go_at_call 88;refine (ze0 d _).mono ?_;rintro e w1 ⟨rfl,hw⟩;replace hw:=hw.symm;subst hw;rw [hdl]) | (go_at_call 89;refine (zf0 d _).mono ?_;rintro e w1 ⟨rfl,hw⟩;replace hw:=hw.symm;subst hw;rw [hdd]) | fail)
     go_roundw
     case rel=>exact ⟨j+1,by omega,hjl,rfl,HE,trivial⟩
     case measure=>exact meas hjl
   | false =>
    have HE:Hid (n=j-i):=by
     unfold Hid;rw [HJ.out,ye6 hjl (by rw [<-hd];exact ho)];omega
    have hdl:isLet d=false:=by unfold okc at ho;cases h:isLet d<;>simp_all
    have hdd:isDig d=false:=by unfold okc at ho;cases h:isDig d<;>simp_all
    clear hd ho
    have hnw:IntKind.i64.wrap ((j:Int)-(i:Int))=(n:Int):=zd5 (by have:=HE.out;omega) (by have:=HE.out;omega)
    have hijI:(i:Int)<=(j:Int):=by omega
    obtain ⟨f0,f1,f2,f3,z0,z1,z2,z3⟩:=za7 HR.out
    have hlt:=za2 HR.out
    by_cases h16:16<n
    ·have h16':(16:Int)<(n:Int):=by omega
     have HPP:Hid (pieceS (s.toList.drop i)=.inl 21):=by unfold Hid;rw [HP.out,if_pos h16]
     clear h16
     go_wp2_with (first | (go_at_call 88;refine (ze0 d _).mono ?_;rintro e w1 ⟨rfl,hw⟩;replace hw:=hw.symm;subst hw;rw [hdl]) | (go_at_call 89;refine (zf0 d _).mono ?_;rintro e w1 ⟨rfl,hw⟩;replace hw:=hw.symm;subst hw;rw [hdd]) | fail)
     (try simp only [Exit.inBlock,Exit.then]);refine bodyPost_ret (zc1 rfl _ _ (w.heap.size) 140 #[_,_,_,_] (0,0) _ rfl (zg5 HR.out _ _ _ _) Tryz.underlying140 rfl infoTok) rfl ?_
     refine ⟨?_,by rw [HW.out];exact Z4_ok w _ _ _ _⟩
     unfold PieceIs
     rw [HPP.out]
     rfl
    ·have h16':¬(16:Int)<(n:Int):=by omega
     have HPP:Hid (pieceS (s.toList.drop i)=.inr (0,(s.toList.drop i).take n,0)):=by unfold Hid;rw [HP.out,if_neg h16]
     clear h16
     go_wp2_with (first | (go_at_call 88;refine (ze0 d _).mono ?_;rintro e w1 ⟨rfl,hw⟩;replace hw:=hw.symm;subst hw;rw [hdl]) | (go_at_call 89;refine (zf0 d _).mono ?_;rintro e w1 ⟨rfl,hw⟩;replace hw:=hw.symm;subst hw;rw [hdd]) | fail)
     (try simp only [Exit.inBlock,Exit.then]);refine bodyPost_ret (zc1 rfl _ _ (w.heap.size) 140 #[_,_,_,_] (0,0) _ rfl (zg5 HR.out _ _ _ _) Tryz.underlying140 rfl infoTok) rfl ?_
     refine ⟨?_,by rw [HW.out];exact Z4_ok w _ _ _ _⟩
     unfold PieceIs
     rw [HPP.out]
     exact ⟨s.extract i j,by rw [ze5,HE.out],rfl⟩
  ·have hjl':¬(j:Int)<(s.size:Int):=zb3 hjl
   have HE:Hid (n=j-i):=by unfold Hid;rw [HJ.out,zK5 hjl];omega
   have hnw:IntKind.i64.wrap ((j:Int)-(i:Int))=(n:Int):=zd5 (by have:=HE.out;omega) (by have:=HE.out;omega)
   have hijI:(i:Int)<=(j:Int):=by omega
   obtain ⟨f0,f1,f2,f3,z0,z1,z2,z3⟩:=za7 HR.out
   have hlt:=za2 HR.out
   by_cases h16:16<n
   ·have h16':(16:Int)<(n:Int):=by omega
    have HPP:Hid (pieceS (s.toList.drop i)=.inl 21):=by unfold Hid;rw [HP.out,if_pos h16]
    clear h16
    go_wp2_with fail
    (try simp only [Exit.inBlock,Exit.then]);refine bodyPost_ret (zc1 rfl _ _ (w.heap.size) 140 #[_,_,_,_] (0,0) _ rfl (zg5 HR.out _ _ _ _) Tryz.underlying140 rfl infoTok) rfl ?_
    refine ⟨?_,by rw [HW.out];exact Z4_ok w _ _ _ _⟩
    unfold PieceIs
    rw [HPP.out]
    rfl
   ·have h16':¬(16:Int)<(n:Int):=by omega
    have HPP:Hid (pieceS (s.toList.drop i)=.inr (0,(s.toList.drop i).take n,0)):=by unfold Hid;rw [HP.out,if_neg h16]
    clear h16
    go_wp2_with fail
    (try simp only [Exit.inBlock,Exit.then]);refine bodyPost_ret (zc1 rfl _ _ (w.heap.size) 140 #[_,_,_,_] (0,0) _ rfl (zg5 HR.out _ _ _ _) Tryz.underlying140 rfl infoTok) rfl ?_
    refine ⟨?_,by rw [HW.out];exact Z4_ok w _ _ _ _⟩
    unfold PieceIs
    rw [HPP.out]
    exact ⟨s.extract i j,by rw [ze5,HE.out],rfl⟩
end
section
open Go.RowKit
theorem ys1 (s:ByteArray) {i j:Nat} (h:i<=j) (hj:j<=s.size):(s.extract i j).size=j-i:=by rw [ByteArray.size_extract];omega
theorem yA2 (s:ByteArray) {i j k:Nat} (hj:j<=s.size) (hk:k<(s.extract i j).size):(s.extract i j)[k]=s[i+k]'(by rw [ByteArray.size_extract] at hk;omega):=by rw [ByteArray.getElem_extract]
set_option maxRecDepth 100000 in
theorem yi1 (s:ByteArray) (i:Nat) (hi:i<s.size) (hs:s.size<=1000000) (hl:isLet s[i]=false) (hdg:isDig s[i]=true) (w:World) :
  Calls Tryz.prog 54 #[.string s,.int .i64 (i:Nat)] w fun e w'=>PieceIs (s.toList.drop i) i e/\Ok w w':=by
 have hi':(i:Int)<(s.size:Int):=by omega
 obtain ⟨c,hc⟩:∃ c,c=s[i]:=⟨_,rfl⟩
 have HD:Hid (s.toList.drop i=c::s.toList.drop (i+1)):=by unfold Hid;rw [hc];exact zd7 s i hi
 have hci:(s[i].toNat:Int)=(c.toNat:Int):=by rw [hc]
 have hlc:isLet c=false:=by rw [hc];exact hl
 have hdc:isDig c=true:=by rw [hc];exact hdg
 have HI:=hid hi
 obtain ⟨n,hn⟩:∃ n,n=runF isDig (s.toList.drop i):=⟨_,rfl⟩
 have HP:Hid (pieceS (s.toList.drop i)=if (!smallS ((s.toList.drop i).take n)||(((s.toList.drop i).drop n).head?.map isLet).getD false)=true then .inl 22 else .inr (1,(s.toList.drop i).take n,valF 0 ((s.toList.drop i).take n))):=by
  unfold Hid
  rw [hn,HD.out]
  simp only [pieceS,hlc,hdc]
  rfl
 have HN:Hid (n=runF isDig (s.toList.drop i)):=hn
 clear hn hc hl hdg
 go_enter Tryz.func54,Tryz.ntmps54
 go_wp2_with (first | (go_at_call 88;refine (ze0 c _).mono ?_;rintro e w1 ⟨rfl,hw⟩;replace hw:=hw.symm;subst hw;rw [hlc]) | (go_at_call 89;refine (zf0 c _).mono ?_;rintro e w1 ⟨rfl,hw⟩;replace hw:=hw.symm;subst hw;rw [hdc]) | fail)
 obtain ⟨W,hW⟩:∃ W,W=Z4 w:=⟨_,rfl⟩
 have hW':W=w.alloc (.cells #[.int .i64 0,.string ⟨#[]⟩,.int .i64 0,.int .i64 0] 140):=hW
 rw [<-hW']
 have HR:Hid (W.heap[w.heap.size]?=some (.cells #[.int .i64 0,.string ⟨#[]⟩,.int .i64 0,.int .i64 0] 140 (0,0))):=by unfold Hid;rw [hW];exact zP8 w
 have HW:Hid (W=Z4 w):=hW
 clear hW hW'
 go_loopw [6] (fun x wr=>∃ (j:Nat),i<=j/\j<=s.size/\x=.int .i64 (j:Nat)/\Hid (n=(j-i)+runF isDig (s.toList.drop j)/\∀ k (h:k<s.size),i<=k->k<j->isDig s[k]=true)/\wr=W) (fun x _=>((s.size:Int)-intOf x).toNat)
 case atStart=>exact ⟨i,Nat.le_refl _,Nat.le_of_lt HI.out,rfl,⟨by rw [HN.out];omega,fun k h h1 h2=>by omega⟩,rfl⟩
 case round =>
  obtain ⟨j,hij,hj,rfl,HJ,rfl⟩:=hrel
  clear hi' hci hlc hdc hi
  have hijI:(i:Int)<=(j:Int):=by omega
  obtain ⟨f0,f1,f2,f3,z0,z1,z2,z3⟩:=za7 HR.out
  have hlt:=za2 HR.out
  have HSZ:Hid ((s.extract i j).size=j-i/\(s.extract i j).size<=1000000):=by have:=ys1 s hij hj;exact ⟨this,by omega⟩
  have HDG:Hid (∀ k (h:k<(s.extract i j).size),isDig (s.extract i j)[k]=true):=fun k h=>by rw [yA2 s hj h];exact HJ.out.2 _ _ (by omega) (by rw [HSZ.out.1] at h;omega)
  obtain ⟨vl,hvl⟩:∃ vl,vl=valF 0 (s.extract i j).toList:=⟨_,rfl⟩
  have HVL:Hid (vl=valF 0 (s.extract i j).toList):=hvl
  clear hvl
  obtain ⟨sm,hsm0⟩:∃ sm,sm=smallS (s.extract i j).toList:=⟨_,rfl⟩
  have HS0:Hid (sm=smallS (s.extract i j).toList):=hsm0
  clear hsm0
  by_cases hjl:j<s.size
  ·have hjl':(j:Int)<(s.size:Int):=za6 hjl
   have hjw:IntKind.i64.wrap ((j:Int)+1)=((j+1:Nat):Int):=zb6 (by omega)
   obtain ⟨d,hd⟩:∃ d,d=s[j]:=⟨_,rfl⟩
   have hdi:(s[j].toNat:Int)=(d.toNat:Int):=by rw [hd]
   cases hdd:isDig d with
   | true =>
    have HE:Hid (n=(j+1-i)+runF isDig (s.toList.drop (j+1))/\∀ k (h:k<s.size),i<=k->k<j+1->isDig s[k]=true):=by
     refine ⟨by rw [HJ.out.1,zK4 hjl (by rw [<-hd];exact hdd)];omega,fun k h h1 h2=>?_⟩
     by_cases e:k=j
     ·subst e;rw [<-hd];exact hdd
     ·exact HJ.out.2 k h h1 (by omega)
    clear hd
    go_wp2_with (first | (go_at_call 89;refine (zf0 d _).mono ?_;rintro e w1 ⟨rfl,hw⟩;replace hw:=hw.symm;subst hw;rw [hdd]) | fail)
    go_roundw
    case rel=>exact ⟨j+1,by omega,hjl,rfl,HE,trivial⟩
    case measure=>exact meas hjl
   | false =>
    have HE:Hid (n=j-i):=by
     unfold Hid;rw [HJ.out.1,ye6 hjl (by rw [<-hd];exact hdd)];omega
    have HSM:Hid (sm=smallS ((s.toList.drop i).take n)):=by unfold Hid;rw [HS0.out,ze5,HE.out]
    have HHD:Hid ((((s.toList.drop i).drop n).head?.map isLet).getD false=isLet d):=by
     unfold Hid;rw [List.drop_drop,show i+n=j by rw [HE.out];omega,zd7 s j hjl,<-hd];rfl
    clear hd
    cases hsmv:sm with
    | false =>
     have hsm:smallS (s.extract i j).toList=false:=by rw [<-HS0.out];exact hsmv
     have HPP:Hid (pieceS (s.toList.drop i)=.inl 22):=by
      unfold Hid;rw [HP.out,if_pos];rw [Bool.or_eq_true];left;rw [<-HSM.out,hsmv];rfl
     go_wp2_with (first | (go_at_call 89;refine (zf0 d _).mono ?_;rintro e w1 ⟨rfl,hw⟩;replace hw:=hw.symm;subst hw;rw [hdd]) | (go_at_call 90;refine (zl6 (s.extract i j) HSZ.out.2 _).mono ?_;rintro e w1 ⟨rfl,hw⟩;replace hw:=hw.symm;subst hw;rw [hsm]) | fail)
     (try simp only [Exit.inBlock,Exit.then]);refine bodyPost_ret (zc1 rfl _ _ (w.heap.size) 140 #[_,_,_,_] (0,0) _ rfl (zg5 HR.out _ _ _ _) Tryz.underlying140 rfl infoTok) rfl ?_
     refine ⟨?_,by rw [HW.out];exact Z4_ok w _ _ _ _⟩
     unfold PieceIs
     rw [HPP.out]
     rfl
    | true =>
     have hsm:smallS (s.extract i j).toList=true:=by rw [<-HS0.out];exact hsmv
     cases hdl:isLet d with
     | true =>
      have HPP:Hid (pieceS (s.toList.drop i)=.inl 22):=by
       unfold Hid;rw [HP.out,if_pos];rw [Bool.or_eq_true];right;rw [HHD.out,hdl]
      go_wp2_with (first | (go_at_call 89;refine (zf0 d _).mono ?_;rintro e w1 ⟨rfl,hw⟩;replace hw:=hw.symm;subst hw;rw [hdd]) | (go_at_call 90;refine (zl6 (s.extract i j) HSZ.out.2 _).mono ?_;rintro e w1 ⟨rfl,hw⟩;replace hw:=hw.symm;subst hw;rw [hsm]) | (go_at_call 88;refine (ze0 d _).mono ?_;rintro e w1 ⟨rfl,hw⟩;replace hw:=hw.symm;subst hw;rw [hdl]) | fail)
      (try simp only [Exit.inBlock,Exit.then]);refine bodyPost_ret (zc1 rfl _ _ (w.heap.size) 140 #[_,_,_,_] (0,0) _ rfl (zg5 HR.out _ _ _ _) Tryz.underlying140 rfl infoTok) rfl ?_
      refine ⟨?_,by rw [HW.out];exact Z4_ok w _ _ _ _⟩
      unfold PieceIs
      rw [HPP.out]
      rfl
     | false =>
      have HPP:Hid (pieceS (s.toList.drop i)=.inr (1,(s.toList.drop i).take n,vl)):=by
       unfold Hid;rw [HP.out,if_neg,HVL.out,ze5,HE.out];rw [Bool.or_eq_true];rintro (h | h)
       ·rw [<-HSM.out,hsmv] at h;cases h
       ·rw [HHD.out,hdl] at h;cases h
      go_wp2_with (first | (go_at_call 89;refine (zf0 d _).mono ?_;rintro e w1 ⟨rfl,hw⟩;replace hw:=hw.symm;subst hw;rw [hdd]) | (go_at_call 90;refine (zl6 (s.extract i j) HSZ.out.2 _).mono ?_;rintro e w1 ⟨rfl,hw⟩;replace hw:=hw.symm;subst hw;rw [hsm]) | (go_at_call 88;refine (ze0 d _).mono ?_;rintro e w1 ⟨rfl,hw⟩;replace hw:=hw.symm;subst hw;rw [hdl]) | fail)
      go_region_with (go_at_call 91;refine (zF3 (s.extract i j) HSZ.out.2 HDG.out _).mono ?_;rintro e w1 ⟨rfl,hw⟩;replace hw:=hw.symm;subst hw;rw [<-HVL.out])
      all_goals
       go_wp2_with fail
       (try simp only [Exit.inBlock,Exit.then]);refine bodyPost_ret (zc1 rfl _ _ (w.heap.size) 140 #[_,_,_,_] (0,0) _ rfl (zg5 HR.out _ _ _ _) Tryz.underlying140 rfl infoTok) rfl ?_
       refine ⟨?_,by rw [HW.out];exact (Z4_ok w _ _ _ _).draws 1⟩
       unfold PieceIs
       rw [HPP.out]
       exact ⟨s.extract i j,by rw [ze5,HE.out],rfl⟩
  ·have hjl':¬(j:Int)<(s.size:Int):=zb3 hjl
   have HE:Hid (n=j-i):=by unfold Hid;rw [HJ.out.1,zK5 hjl];omega
   have HSM:Hid (sm=smallS ((s.toList.drop i).take n)):=by unfold Hid;rw [HS0.out,ze5,HE.out]
   have HHD:Hid ((((s.toList.drop i).drop n).head?.map isLet).getD false=false):=by
    unfold Hid;rw [List.drop_drop,show i+n=j by rw [HE.out];omega,zl4 s j hjl];rfl
   cases hsmv:sm with
   | false =>
    have hsm:smallS (s.extract i j).toList=false:=by rw [<-HS0.out];exact hsmv
    have HPP:Hid (pieceS (s.toList.drop i)=.inl 22):=by
     unfold Hid;rw [HP.out,if_pos];rw [Bool.or_eq_true];left;rw [<-HSM.out,hsmv];rfl
    go_wp2_with (first | (go_at_call 90;refine (zl6 (s.extract i j) HSZ.out.2 _).mono ?_;rintro e w1 ⟨rfl,hw⟩;replace hw:=hw.symm;subst hw;rw [hsm]) | fail)
    (try simp only [Exit.inBlock,Exit.then]);refine bodyPost_ret (zc1 rfl _ _ (w.heap.size) 140 #[_,_,_,_] (0,0) _ rfl (zg5 HR.out _ _ _ _) Tryz.underlying140 rfl infoTok) rfl ?_
    refine ⟨?_,by rw [HW.out];exact Z4_ok w _ _ _ _⟩
    unfold PieceIs
    rw [HPP.out]
    rfl
   | true =>
    have hsm:smallS (s.extract i j).toList=true:=by rw [<-HS0.out];exact hsmv
    have HPP:Hid (pieceS (s.toList.drop i)=.inr (1,(s.toList.drop i).take n,vl)):=by
     unfold Hid;rw [HP.out,if_neg,HVL.out,ze5,HE.out];rw [Bool.or_eq_true];rintro (h | h)
     ·rw [<-HSM.out,hsmv] at h;cases h
     ·rw [HHD.out] at h;cases h
    go_wp2_with (first | (go_at_call 90;refine (zl6 (s.extract i j) HSZ.out.2 _).mono ?_;rintro e w1 ⟨rfl,hw⟩;replace hw:=hw.symm;subst hw;rw [hsm]) | fail)
    go_region_with (go_at_call 91;refine (zF3 (s.extract i j) HSZ.out.2 HDG.out _).mono ?_;rintro e w1 ⟨rfl,hw⟩;replace hw:=hw.symm;subst hw;rw [<-HVL.out])
    all_goals
     go_wp2_with fail
     (try simp only [Exit.inBlock,Exit.then]);refine bodyPost_ret (zc1 rfl _ _ (w.heap.size) 140 #[_,_,_,_] (0,0) _ rfl (zg5 HR.out _ _ _ _) Tryz.underlying140 rfl infoTok) rfl ?_
     refine ⟨?_,by rw [HW.out];exact (Z4_ok w _ _ _ _).draws 1⟩
     unfold PieceIs
     rw [HPP.out]
     exact ⟨s.extract i j,by rw [ze5,HE.out],rfl⟩
end
section
open Go.RowKit
theorem zP9:∀ b∈sgs,1<=b.size/\b.size<=2:=by decide
theorem zG7 {k:Nat} (h:k<22) {l:List UInt8} (hn:((sgs[k]'h).toList==l.take (sgs[k]'h).size&&decide ((sgs[k]'h).size<=l.length))=false):signF (sgs.drop k) l=signF (sgs.drop (k+1)) l:=by
 rw [List.drop_eq_getElem_cons h]
 simp only [signF]
 rw [hn];rfl
theorem ys2 {k:Nat} (h:k<22) {l:List UInt8} (hn:((sgs[k]'h).toList==l.take (sgs[k]'h).size&&decide ((sgs[k]'h).size<=l.length))=true):signF (sgs.drop k) l=some (sgs[k]'h):=by
 rw [List.drop_eq_getElem_cons h]
 simp only [signF]
 rw [hn];rfl
def Z5 (w:World):World:=(Z4 w).alloc (.cells (sgs.map Value.string).toArray 9)
theorem yD3 (w:World):(Z5 w).heap[w.heap.size]?=some (.cells #[.int .i64 0,.string ⟨#[]⟩,.int .i64 0,.int .i64 0] 140 (0,0)):=heap_past _ _ _ (za2 (zP8 w)) (zP8 w)
theorem yA3 (w:World):(Z4 w).heap.size=w.heap.size+1:=Array.size_push _
theorem yD4 (w:World):(Z5 w).heap[w.heap.size+1]?=some (.cells (sgs.map Value.string).toArray 9 (0,0)):=heap_at _ _ _ (yA3 w).symm
theorem Z5_ok (w:World):Ok w (Z5 w):=((Ok.refl w).alloc _).alloc _
theorem ys3 {w:World} {g k:Nat} (h:k<22) (hg:w.heap[g]?=some (.cells (sgs.map Value.string).toArray 9 (0,0))):w.cell? ⟨g,k,none⟩=some (.string (sgs[k]'h)):=by
 have hx:(sgs.map Value.string).toArray[k]?=some (.string (sgs[k]'h)):=by
  rw [List.getElem?_toArray,List.getElem?_map,List.getElem?_eq_getElem (show k<sgs.length from h)];rfl
 exact (cell_of_row _ _ k _ _ _ hg).trans hx
theorem yA4 {s:ByteArray} {i:Nat} {b:ByteArray} (h:i+b.size<=s.size):(b.toList==(s.toList.drop i).take b.size&&decide (b.size<=(s.toList.drop i).length))=((s.extract i (i+b.size)).toList==b.toList):=by
 rw [ze5,show i+b.size-i=b.size by omega,decide_eq_true (by rw [List.length_drop,zc3];omega),Bool.and_true]
 exact BEq.comm
theorem ys4 {s:ByteArray} {i:Nat} {b:ByteArray} (hi:i<s.size) (h:¬i+b.size<=s.size):(b.toList==(s.toList.drop i).take b.size&&decide (b.size<=(s.toList.drop i).length))=false:=by
 rw [decide_eq_false (by rw [List.length_drop,zc3];omega),Bool.and_false]
theorem yi2 {w w1:World} (h:Ok w w1) (x y z u:Value):Ok w ((((w1.setCell ⟨w.heap.size,0,none⟩ x).setCell ⟨w.heap.size,1,none⟩ y).setCell ⟨w.heap.size,2,none⟩ z).setCell ⟨w.heap.size,3,none⟩ u) :=
 (((h.set (p:=⟨w.heap.size,0,none⟩) (Nat.le_refl _) _).set (p:=⟨w.heap.size,1,none⟩) (Nat.le_refl _) _).set (p:=⟨w.heap.size,2,none⟩) (Nat.le_refl _) _).set (p:=⟨w.heap.size,3,none⟩) (Nat.le_refl _) _
theorem meas22 {k:Nat} (h:k<22):((22:Int)-intOf (.int .i64 ((k:Int)+1))).toNat<((22:Int)-intOf (.int .i64 (k:Int))).toNat:=by simp only [intOf];omega
def SW (w wr:World):Prop:=Ok w wr/\wr.heap[w.heap.size]?=some (.cells #[.int .i64 0,.string ⟨#[]⟩,.int .i64 0,.int .i64 0] 140 (0,0))/\wr.heap[w.heap.size+1]?=some (.cells (sgs.map Value.string).toArray 9 (0,0))
theorem SW.draws {w wr:World} (h:SW w wr) (n:Nat):SW w (wr.drewN n):=⟨h.1.draws n,h.2.1,h.2.2⟩
set_option maxRecDepth 100000 in
theorem zU7 (s:ByteArray) (i:Nat) (hi:i<s.size) (hs:s.size<=1000000) (hl:isLet s[i]=false) (hdg:isDig s[i]=false) (w:World) :
  Calls Tryz.prog 54 #[.string s,.int .i64 (i:Nat)] w fun e w'=>PieceIs (s.toList.drop i) i e/\Ok w w':=by
 have hi':(i:Int)<(s.size:Int):=by omega
 obtain ⟨c,hc⟩:∃ c,c=s[i]:=⟨_,rfl⟩
 have HD:Hid (s.toList.drop i=c::s.toList.drop (i+1)):=by unfold Hid;rw [hc];exact zd7 s i hi
 have hci:(s[i].toNat:Int)=(c.toNat:Int):=by rw [hc]
 have hlc:isLet c=false:=by rw [hc];exact hl
 have hdc:isDig c=false:=by rw [hc];exact hdg
 have HI:=hid hi
 have HP:Hid (pieceS (s.toList.drop i)=match signF sgs (s.toList.drop i) with | none=>.inl 20 | some x=>.inr (2,x.toList,0)):=by
  unfold Hid
  rw [HD.out]
  simp only [pieceS,hlc,hdc]
  rfl
 clear hc hl hdg
 go_enter Tryz.func54,Tryz.ntmps54
 go_wp2_with (first | (go_at_call 88;refine (ze0 c _).mono ?_;rintro e w1 ⟨rfl,hw⟩;replace hw:=hw.symm;subst hw;rw [hlc]) | (go_at_call 89;refine (zf0 c _).mono ?_;rintro e w1 ⟨rfl,hw⟩;replace hw:=hw.symm;subst hw;rw [hdc]) | (go_at_call 92;refine (yi0 _).mono ?_;rintro e w1 ⟨rfl,rfl⟩) | fail)
 obtain ⟨W,hW⟩:∃ W,W=Z5 w:=⟨_,rfl⟩
 have hW':W=(w.alloc (.cells #[.int .i64 0,.string ⟨#[]⟩,.int .i64 0,.int .i64 0] 140)).alloc (.cells (sgs.map Value.string).toArray 9):=hW
 rw [<-hW']
 have HW:Hid (SW w W):=by unfold Hid;rw [hW];exact ⟨Z5_ok w,yD3 w,yD4 w⟩
 clear hW hW'
 go_loopw [8] (fun x wr=>∃ (k:Nat),k<=22/\x=.int .i64 (k:Nat)/\Hid (signF sgs (s.toList.drop i)=signF (sgs.drop k) (s.toList.drop i))/\Hid (SW w wr)) (fun x _=>((22:Int)-intOf x).toNat)
 case atStart=>exact ⟨0,Nat.zero_le _,rfl,rfl,HW⟩
 case round =>
  obtain ⟨k,hk,rfl,HK,HW⟩:=hrel
  clear hi' hci hlc hdc hi
  obtain ⟨f0,f1,f2,f3,z0,z1,z2,z3⟩:=za7 HW.out.2.1
  have hlt:=za2 HW.out.2.1
  by_cases hkl:k<22
  ·have hkl':(k:Int)<22:=by omega
   have hkw:IntKind.i64.wrap ((k:Int)+1)=((k+1:Nat):Int):=zb6 (by omega)
   have hcell:=ys3 hkl HW.out.2.2
   obtain ⟨b,hb⟩:∃ b,b=sgs[k]'hkl:=⟨_,rfl⟩
   rw [<-hb] at hcell
   have HB:Hid (b=sgs[k]'hkl/\1<=b.size/\b.size<=2):=⟨hb,zP9 b (by rw [hb];exact List.getElem_mem _)⟩
   clear hb
   obtain ⟨m,hm⟩:∃ m,m=i+b.size:=⟨_,rfl⟩
   have hbw:IntKind.i64.wrap ((i:Int)+(b.size:Int))=(m:Int):=zd5 (by omega) (by have:=HB.out;have:=HI.out;omega)
   have hib:(i:Int)<=(m:Int):=by omega
   have HM:Hid (m=i+b.size):=hm
   clear hm
   by_cases hle:m<=s.size
   ·have hle':decide (m<=s.size)=true:=decide_eq_true hle
    have hleI:(m:Int)<=(s.size:Int):=by omega
    have HS:=yA4 (b:=b) (i:=i) (s:=s) (by rw [<-HM.out];exact hle)
    rw [<-HM.out] at HS
    cases he:((s.extract i m).toList==b.toList) with
    | true =>
     have HPP:Hid (pieceS (s.toList.drop i)=.inr (2,b.toList,0)):=by
      unfold Hid;rw [HP.out,HK.out,ys2 hkl (by rw [<-HB.out.1,HS,he]),HB.out.1]
     clear HS
     go_wp2_with fail
     go_quiet (fail)
     go_wp2_with fail
     (try simp only [Exit.inBlock,Exit.then]);refine bodyPost_ret (zc1 rfl _ _ (w.heap.size) 140 #[_,_,_,_] (0,0) _ rfl (zg5 (HW.out.draws _).2.1 _ _ _ _) Tryz.underlying140 rfl infoTok) rfl ?_
     refine ⟨?_,yi2 (HW.out.draws _).1 _ _ _ _⟩
     unfold PieceIs
     rw [HPP.out]
     exact ⟨b,rfl,rfl⟩
    | false =>
     have HN:Hid (signF sgs (s.toList.drop i)=signF (sgs.drop (k+1)) (s.toList.drop i)):=by
      unfold Hid;rw [HK.out,zG7 hkl (by rw [<-HB.out.1,HS,he])]
     clear HS
     go_wp2_with fail
     go_quiet (fail)
     go_wp2_with fail
     exact ⟨⟨k+1,hkl,rfl,HN,HW.out.draws _⟩,meas22 hkl⟩
   ·have hle':decide (m<=s.size)=false:=decide_eq_false hle
    have hleI:¬(m:Int)<=(s.size:Int):=by omega
    have HN:Hid (signF sgs (s.toList.drop i)=signF (sgs.drop (k+1)) (s.toList.drop i)):=by
     unfold Hid;rw [HK.out,zG7 hkl (by rw [<-HB.out.1];exact ys4 HI.out (by rw [<-HM.out];exact hle))]
    go_wp2_with fail
    go_quiet (fail)
    go_wp2_with fail
    exact ⟨⟨k+1,hkl,rfl,HN,HW.out.draws _⟩,meas22 hkl⟩
  ·have hk22:k=22:=by omega
   subst hk22
   have HPP:Hid (pieceS (s.toList.drop i)=.inl 20):=by unfold Hid;rw [HP.out,HK.out];rfl
   go_wp2_with fail
   (try simp only [Exit.inBlock,Exit.then]);refine bodyPost_ret (zc1 rfl _ _ (w.heap.size) 140 #[_,_,_,_] (0,0) _ rfl (zg5 HW.out.2.1 _ _ _ _) Tryz.underlying140 rfl infoTok) rfl ?_
   refine ⟨?_,yi2 HW.out.1 _ _ _ _⟩
   unfold PieceIs
   rw [HPP.out]
   rfl
theorem zG8 (s:ByteArray) (i:Nat) (hi:i<s.size) (hs:s.size<=1000000) (w:World) :
  Calls Tryz.prog 54 #[.string s,.int .i64 (i:Nat)] w fun e w'=>PieceIs (s.toList.drop i) i e/\Ok w w':=by
 cases hl:isLet s[i] with
 | true=>exact zU6 s i hi hs hl w
 | false =>
  cases hd:isDig s[i] with
  | true=>exact yi1 s i hi hs hl hd w
  | false=>exact zU7 s i hi hs hl hd w
end
section
open Go.RowKit
abbrev Tk:=Nat×List UInt8×Int×Nat
def lexF:Nat->List UInt8->Nat->(Nat×Nat)⊕List Tk
 | 0,_,_=>.inr []
 | fuel+1,l,i =>
  match l with
  | []=>.inr []
  | _::_ =>
   if 0<behS l then lexF fuel (l.drop (behS l)) (i+behS l)
   else match pieceS l with
    | .inl e=>.inl (e,i)
    | .inr (k,t,n) =>
     match lexF fuel (l.drop t.length) (i+t.length) with
     | .inl e=>.inl e
     | .inr r=>.inr ((k,t,n,i)::r)
def lexS (l:List UInt8):(Nat×Nat)⊕List Tk:=if 8192<l.length then .inl (21,8192) else lexF (l.length+1) l 0
def TkIs (xs:List Value):List Tk->Prop
 | []=>xs=[]
 | (k,t,n,i)::r=>∃ (b:ByteArray) (ys:List Value),b.toList=t/\xs=.int .i64 (k:Nat)::.string b::.int .i64 n::.int .i64 (i:Nat)::ys/\TkIs ys r
theorem TkIs.add:∀ {ts:List Tk} {xs:List Value} {k i:Nat} {b:ByteArray} {n:Int},TkIs xs ts->TkIs (xs++[.int .i64 (k:Nat),.string b,.int .i64 n,.int .i64 (i:Nat)]) (ts++[(k,b.toList,n,i)])
 | [],xs,k,i,b,n,h=>by
  have:xs=[]:=h
  subst this
  exact ⟨b,[],rfl,rfl,rfl⟩
 | (k',t',n',i')::r,xs,k,i,b,n,h=>by
  obtain ⟨b',ys,h1,h2,h3⟩:=h
  exact ⟨b',_,h1,by rw [h2];rfl,TkIs.add h3⟩
theorem TkIs.len:∀ {ts:List Tk} {xs:List Value},TkIs xs ts->xs.length=ts.length*4
 | [],xs,h=>by have:xs=[]:=h;subst this;rfl
 | (k',t',n',i')::r,xs,h=>by
  obtain ⟨b',ys,h1,h2,h3⟩:=h
  rw [h2];simp [TkIs.len h3];omega
theorem zG9 {l:List UInt8} {k:Nat} {t:List UInt8} {n:Int} (h:pieceS l=.inr (k,t,n)):1<=t.length/\t.length<=l.length:=by
 cases l with
 | nil=>cases h
 | cons c r =>
  simp only [pieceS] at h
  split at h
  ·next hl =>
   have hr:runF okc (c::r)=runF okc r+1:=by simp [runF,okc,hl]
   split at h
   ·cases h
   ·cases h
    rw [List.length_take]
    have:=zA2 okc (c::r)
    omega
  ·split at h
   ·next hd =>
    have hr:runF isDig (c::r)=runF isDig r+1:=by simp [runF,hd]
    split at h
    ·cases h
    ·cases h
     rw [List.length_take]
     have:=zA2 isDig (c::r)
     omega
   ·split at h
    ·cases h
    ·next x hx =>
     cases h
     have key:∀ (ss:List ByteArray),(∀ b∈ss,1<=b.size/\b.size<=2)->signF ss (c::r)=some x->1<=x.size/\x.size<=(c::r).length:=by
      intro ss
      induction ss with
      | nil=>intro _ h;cases h
      | cons y ys ih =>
       intro hy h
       simp only [signF] at h
       split at h
       ·next hb =>
        cases h
        rw [Bool.and_eq_true,decide_eq_true_eq] at hb
        exact ⟨(hy _ (List.mem_cons_self)).1,hb.2⟩
       ·exact ih (fun b hb=>hy b (List.mem_cons_of_mem _ hb)) h
     have:=key sgs zP9 hx
     rw [zc3];exact this
theorem yA5:∀ (l:List UInt8),behS l<=l.length
 | []=>Nat.le_refl _
 | c::r=>by
  have:=zA2 no10 (c::r)
  simp only [behS]
  split
  ·simp
  ·split
   ·exact this
   ·exact Nat.zero_le _
theorem zB2 {fuel:Nat} {l:List UInt8} {i:Nat} (hl:l≠[]) (h:0<behS l):lexF (fuel+1) l i=lexF fuel (l.drop (behS l)) (i+behS l):=by
 cases l with
 | nil=>exact absurd rfl hl
 | cons c r=>simp only [lexF];rw [if_pos h]
theorem zB3 {fuel:Nat} {l:List UInt8} {i e:Nat} (hl:l≠[]) (h:¬0<behS l) (hp:pieceS l=.inl e):lexF (fuel+1) l i=.inl (e,i):=by
 cases l with
 | nil=>exact absurd rfl hl
 | cons c r=>simp only [lexF];rw [if_neg h,hp]
theorem zB4 {fuel:Nat} {l:List UInt8} {i k:Nat} {t:List UInt8} {n:Int} (hl:l≠[]) (h:¬0<behS l) (hp:pieceS l=.inr (k,t,n)):lexF (fuel+1) l i=match lexF fuel (l.drop t.length) (i+t.length) with | .inl e=>.inl e | .inr r=>.inr ((k,t,n,i)::r):=by
 cases l with
 | nil=>exact absurd rfl hl
 | cons c r=>simp only [lexF];rw [if_neg h,hp]
def addT (ts:List Tk):(Nat×Nat)⊕List Tk->(Nat×Nat)⊕List Tk
 | .inl e=>.inl e
 | .inr r=>.inr (ts++r)
theorem yi3 (ts:List Tk) (x:Tk) (y:(Nat×Nat)⊕List Tk):addT ts (match y with | .inl e=>.inl e | .inr r=>.inr (x::r))=addT (ts++[x]) y:=by
 cases y with
 | inl e=>rfl
 | inr r=>simp [addT]
def ToksIs (w:World) (l:List UInt8) (e:Ending) (w':World):Prop :=
 match lexS l with
 | .inl (er,at0)=>e=.returned (.tuple #[.slice none 0 0,.int .i64 (er:Nat),.int .i64 (at0:Nat)])
 | .inr ts=>∃ v xs,e=.returned (.tuple #[v,.int .i64 0,.int .i64 0])/\w'.ownsRow w.heap.size 140 4 v ts.length xs/\TkIs xs ts
theorem ys5 (x:(Nat×Nat)⊕List Tk):addT [] x=x:=by cases x<;>rfl
theorem zH0 {l:List UInt8} {e:Nat} (h:pieceS l=.inl e):20<=e:=by
 cases l with
 | nil=>cases h;decide
 | cons c r =>
  simp only [pieceS] at h
  repeat' split at h
  all_goals cases h
  all_goals decide
theorem infoTok3:(Tryz.prog.info? 140).map (fun i=>(i.zero,i.size,i.bytes))=some (some (.agg #[.int .i64 0,.string ⟨#[]⟩,.int .i64 0,.int .i64 0]),4,40):=by kernel_rfl
theorem ys6 {w1 w4:World} {x y z u:Value} {o:Obj} {own:Option Nat} (hg:((w1.alloc (.cells #[x,y,z,u] 140)).alloc o).grownBy w4 own) (ho:∀ b,own=some b->b<w1.heap.size):w4.cell? ⟨w1.heap.size,1,none⟩=some y:=by
 have h0:((w1.alloc (.cells #[x,y,z,u] 140)).alloc o).heap[w1.heap.size]?=some (.cells #[x,y,z,u] 140 (0,0)):=heap_past _ _ _ (za2 (za4 _ _)) (za4 _ _)
 have h1:w4.heap[w1.heap.size]?=some (.cells #[x,y,z,u] 140 (0,0)):=(hg.block _ (za2 h0) (fun e=>by have:=ho _ e.symm;omega)).trans h0
 exact (za7 h1).2.1
def TR (s:ByteArray) (xs:List Value) (N0 j:Nat):Prop :=
 ∃ ts fuel,TkIs xs ts/\N0=ts.length/\N0<=j/\s.size-j<fuel/\lexS s.toList=addT ts (lexF fuel (s.toList.drop j) j)
def TI (w:World) (s:ByteArray) (wr:World) (v:Value) (N0 j:Nat):Prop :=
 Ok w wr/\∃ xs,wr.ownsRow w.heap.size 140 4 v N0 xs/\TR s xs N0 j
theorem zL9 {s:ByteArray} {j:Nat} (h:j<s.size):s.toList.drop j≠[]:=by rw [zd7 s j h];exact List.cons_ne_nil _ _
theorem TI.blank {w:World} {s:ByteArray} {wr:World} {v:Value} {N0 j m:Nat} (h:TI w s wr v N0 j) (hl:s.toList.length=s.size) (hj:j<s.size) (hb:0<behS (s.toList.drop j)) (hm:m=j+behS (s.toList.drop j)):TI w s wr v N0 m:=by
 obtain ⟨h0,xs,h1,ts,fuel,h2,h3,h4,h5,h6⟩:=h
 cases fuel with
 | zero=>omega
 | succ f =>
  refine ⟨h0,xs,h1,ts,f,h2,h3,by omega,by omega,?_⟩
  rw [h6,zB2 (zL9 hj) hb,List.drop_drop,hm]
theorem TI.bad {w:World} {s:ByteArray} {wr:World} {v:Value} {N0 j e:Nat} (h:TI w s wr v N0 j) (hl:s.toList.length=s.size) (hj:j<s.size) (hb:¬0<behS (s.toList.drop j)) (hp:pieceS (s.toList.drop j)=.inl e):lexS s.toList=.inl (e,j):=by
 obtain ⟨h0,xs,h1,ts,fuel,h2,h3,h4,h5,h6⟩:=h
 cases fuel with
 | zero=>omega
 | succ f=>rw [h6,zB3 (zL9 hj) hb hp];rfl
theorem TI.done {w:World} {s:ByteArray} {wr:World} {v:Value} {N0 j:Nat} (h:TI w s wr v N0 j) (hl:s.toList.length=s.size) (hj:¬j<s.size):∃ ts xs,lexS s.toList=.inr ts/\wr.ownsRow w.heap.size 140 4 v ts.length xs/\TkIs xs ts:=by
 obtain ⟨h0,xs,h1,ts,fuel,h2,h3,h4,h5,h6⟩:=h
 refine ⟨ts,xs,?_,by rw [<-h3];exact h1,h2⟩
 cases fuel with
 | zero=>omega
 | succ f=>rw [h6,zl4 s j hj];simp [lexF,addT]
theorem TR.more {s:ByteArray} {xs:List Value} {N0 j k:Nat} {t:List UInt8} {n:Int} {b:ByteArray} (h:TR s xs N0 j) (hl:s.toList.length=s.size) (hj:j<s.size) (hb:¬0<behS (s.toList.drop j)) (hp:pieceS (s.toList.drop j)=.inr (k,t,n)) (hbt:b.toList=t) :
  TR s (xs++[.int .i64 (k:Nat),.string b,.int .i64 n,.int .i64 (j:Nat)]) (N0+1) (j+b.size)/\1<=b.size/\b.size<=s.size-j:=by
 obtain ⟨ts,fuel,h2,h3,h4,h5,h6⟩:=h
 have hlen:=zG9 hp
 have hbs:t.length=b.size:=by rw [<-hbt,zc3]
 rw [hbs,List.length_drop,hl] at hlen
 refine ⟨?_,hlen⟩
 cases fuel with
 | zero=>omega
 | succ f =>
  refine ⟨ts++[(k,b.toList,n,j)],f,h2.add,by rw [List.length_append,h3];rfl,by omega,by omega,?_⟩
  rw [h6,zB4 (zL9 hj) hb hp,yi3,List.drop_drop,hbs,hbt]
theorem za1 {w w':World} {B:Nat} {e:TypeId} {s n:Nat} {v:Value} {xs:List Value} (h:w.ownsRow B e s v n xs) (hk:Ok w w'):w'.ownsRow B e s v n xs:=zb4 h fun b hb=>Below.block hk b (h.lt b hb).2
theorem Ok.grown {w0 w w':World} {own:Option Nat} (h:Ok w0 w) (hg:w.grownBy w' own) (ho:∀ b,own=some b->w0.heap.size<=b):Ok w0 w':=by
 have hb:Below w0.heap.size w0 w:=h
 have:=hb.size
 refine ⟨hg.os.trans hb.os,hg.tape.trans hb.tape,hg.output.trans hb.output,Nat.le_trans hb.size hg.size,fun k hk=>?_⟩
 exact (hg.block k (by omega) (fun e=>by have:=ho k e.symm;omega)).trans (hb.block k hk)
theorem ys7 {w wr w1 w4:World} {s b:ByteArray} {v v':Value} {xs:List Value} {N0 m k:Nat} {tx:List UInt8} {n:Int} {o:Obj} (hs:s.size<=1000000) (h:Ok w wr) (how:wr.ownsRow w.heap.size 140 4 v N0 xs) (htr:TR s xs N0 m) (hok:Ok wr w1) (hj:m<s.size) (hl:s.toList.length=s.size) (hb:¬0<behS (s.toList.drop m)) (hp:pieceS (s.toList.drop m)=.inr (k,tx,n)) (hbt:b.toList=tx)
  (hg:((w1.alloc (.cells #[.int .i64 (k:Nat),.string b,.int .i64 n,.int .i64 (m:Nat)] 140)).alloc o).grownBy w4 v.ownBlock) (ho4:w4.ownsRow w.heap.size 140 4 v' (N0+1) (xs++[.int .i64 (k:Nat),.string b,.int .i64 n,.int .i64 (m:Nat)])) :
  w1.heap.size<w4.heap.size/\w4.cell? ⟨w1.heap.size,1,none⟩=some (.string b)/\IntKind.i64.wrap ((m:Int)+(b.size:Int))=((m+b.size:Nat):Int)/\(TI w s w4 v' (N0+1) (m+b.size)/\m+b.size<=s.size/\1<=b.size):=by
 have hfin:=htr.more hl hj hb hp hbt
 have h1:=hg.size
 have h2:((w1.alloc (.cells #[.int .i64 (k:Nat),.string b,.int .i64 n,.int .i64 (m:Nat)] 140)).alloc o).heap.size=w1.heap.size+1+1:=by rw [show ∀ (z:World) (o:Obj),(z.alloc o).heap.size=z.heap.size+1 from fun z o=>Array.size_push _,show ∀ (z:World) (o:Obj),(z.alloc o).heap.size=z.heap.size+1 from fun z o=>Array.size_push _]
 refine ⟨by omega,ys6 hg (fun b hb=>Nat.lt_of_lt_of_le (how.lt b hb).2 hok.le),zd5 (by omega) (by omega),⟨?_,_,ho4,hfin.1⟩,by omega,hfin.2.1⟩
 exact (((h.step hok).alloc _).alloc _).grown hg (fun b hb=>(how.lt b hb).1)
set_option maxRecDepth 100000 in
theorem zx5 (s:ByteArray) (w:World) :
  Calls Tryz.prog 29 #[.string s] w fun e w'=>ToksIs w s.toList e w'/\Ok w w':=by
 have HL:Hid (s.toList.length=s.size):=zc3 s
 by_cases h8:8192<s.size
 ·have h8':(8192:Int)<(s.size:Int):=by omega
  have HX:Hid (lexS s.toList=.inl (21,8192)):=by unfold Hid lexS;rw [HL.out,if_pos h8]
  clear h8
  go_enter Tryz.func29,Tryz.ntmps29
  go_wp2_with fail
  (try simp only [Exit.inBlock,Exit.then]);refine bodyPost_ret (results_tmp3 rfl _ _ _) rfl ?_
  refine ⟨?_,Ok.refl w⟩
  unfold ToksIs;rw [HX.out]
  rfl
 ·have hs:s.size<=1000000:=by omega
  have h8':¬(8192:Int)<(s.size:Int):=by omega
  have HX:Hid (lexS s.toList=lexF (s.size+1) s.toList 0):=by unfold Hid lexS;rw [HL.out,if_neg h8]
  have HS:Hid (s.size<=8192):=Nat.le_of_not_lt h8
  clear h8
  go_enter Tryz.func29,Tryz.ntmps29
  go_wp2_with fail
  go_loopw [5,6] (fun o x wr=>∃ (j N0:Nat) (oo:Option Addr) (oc:Nat),j<=s.size/\o=.slice oo N0 oc/\x=.int .i64 (j:Nat)/\Hid (TI w s wr (.slice oo N0 oc) N0 j)) (fun _ x _=>((s.size:Int)-intOf x).toNat)
  case atStart=>exact ⟨0,0,none,0,Nat.zero_le _,rfl,rfl,Ok.refl w,[],World.ownsRow_nil _ _ _ _,[],s.size+1,rfl,rfl,Nat.le_refl _,by omega,by rw [HX.out];exact (ys5 _).symm⟩
  case round =>
   obtain ⟨j,N0,oo,oc,hj,rfl,rfl,HJ⟩:=hrel
   by_cases hjl:j<s.size
   ·have hjl':(j:Int)<(s.size:Int):=za6 hjl
    obtain ⟨b0,hb0⟩:∃ b0,b0=behS (s.toList.drop j):=⟨_,rfl⟩
    have hble:b0<=s.size-j:=by rw [hb0];refine Nat.le_trans (yA5 _) ?_;rw [List.length_drop,HL.out];exact Nat.le_refl _
    have HB0:Hid (b0=behS (s.toList.drop j)/\b0<=s.size-j):=⟨hb0,hble⟩
    have HJL:Hid (j<s.size):=hjl
    obtain ⟨m,hm⟩:∃ m,m=j+b0:=⟨_,rfl⟩
    have HM:Hid (m=j+b0):=hm
    by_cases hpos:0<b0
    ·have hmj:(j:Int)<(m:Int):=by omega
     have HN:Hid (TI w s wr (.slice oo N0 oc) N0 m):=TI.blank HJ.out HL.out hjl (by rw [<-hb0];exact hpos) (by rw [hm,hb0])
     have hms:m<=s.size:=by omega
     clear hb0 hble hm hpos
     go_wp2_with (go_at_call 53;refine (zp6 s j HJL.out hs _).mono ?_;rintro e w1 ⟨rfl,hw⟩;replace hw:=hw.symm;subst hw;rw [<-HB0.out.1,<-HM.out])
     go_roundw
     case rel=>exact ⟨m,N0,oo,oc,hms,rfl,rfl,HN⟩
     case measure=>simp only [intOf];omega
    ·have hmj:m=j:=by omega
     have HNB:Hid (¬0<behS (s.toList.drop j)):=by unfold Hid;rw [<-hb0];exact hpos
     subst hmj
     clear hb0 hble hm hpos
     cases hps:pieceS (s.toList.drop m) with
     | inl er =>
      have her:((er:Int) != 0)=true:=by have:=zH0 hps;rw [bne_iff_ne];omega
      have HPS:Hid (pieceS (s.toList.drop m)=.inl er):=hps
      have HE:Hid (lexS s.toList=.inl (er,m)):=TI.bad HJ.out HL.out hjl HNB.out hps
      clear hps
      go_wp2_with (first
       | (go_at_call 53;refine (zp6 s m HJL.out hs _).mono ?_;rintro e w1 ⟨rfl,hw⟩;replace hw:=hw.symm;subst hw;rw [<-HB0.out.1,<-HM.out])
       | (go_at_call 54;refine (zG8 s m HJL.out hs _).mono ?_;rintro e w1 ⟨hp,hok⟩;unfold PieceIs at hp;rw [HPS.out] at hp;unfold tok0 at hp;subst hp;have HOK:Hid (Ok wr w1):=hok;clear hok)
       | fail)
      (try simp only [Exit.inBlock,Exit.then]);refine bodyPost_ret (results_tmp3 rfl _ _ _) rfl ?_
      refine ⟨?_,?_⟩
      ·unfold ToksIs;rw [HE.out];rfl
      ·exact (HJ.out.1.step HOK.out).alloc _
     | inr p =>
      obtain ⟨k,tx,n⟩:=p
      have HPS:Hid (pieceS (s.toList.drop m)=.inr (k,tx,n)):=hps
      clear hps
      obtain ⟨xs,hown,htr⟩:=HJ.out.2
      have HOW:Hid (wr.ownsRow w.heap.size 140 4 (.slice oo N0 oc) N0 xs):=hown
      have HTR:Hid (TR s xs N0 m):=htr
      have hN0:N0<=8192:=by obtain ⟨_,_,_,_,h,_⟩:=htr;have:=HS.out;omega
      have HN63:Hid (N0+1<=maxLen/\(N0+1)*40<=140737488355328):=by unfold Hid maxLen;omega
      have HLT:Hid (∀ b,(Value.slice oo N0 oc).ownBlock=some b->w.heap.size<=b/\b<wr.heap.size):=fun b hb=>hown.lt b hb
      clear hown htr hN0
      obtain ⟨i0,hi0,hz0,hz1,hz2⟩:=zg8 infoTok3
      go_wp2_with (first
       | (go_at_call 53;refine (zp6 s m HJL.out hs _).mono ?_;rintro e w1 ⟨rfl,hw⟩;replace hw:=hw.symm;subst hw;rw [<-HB0.out.1,<-HM.out])
       | (go_at_call 54;refine (zG8 s m HJL.out hs _).mono ?_;rintro e w1 ⟨hp,hok⟩;unfold PieceIs at hp;rw [HPS.out] at hp;obtain ⟨b,hb,rfl⟩:=hp;have HOK:Hid (Ok wr w1):=hok;have HBT:Hid (b.toList=tx):=hb;clear hok hb)
       | (at_builtin;refine wpList_append_lies _ rfl _ _ 97 rfl w.heap.size 140 i0 _ 4 40 Tryz.underlying97 hi0 hz0 hz1 hz2 rfl (by decide) _ N0 xs (by rfl) (World.ownsRow.alloc (World.ownsRow.alloc (za1 HOW.out HOK.out) _) _) ⟨w1.heap.size+1,0,none⟩ 1 1 [.int .i64 (k:Nat),.string b,.int .i64 n,.int .i64 (m:Nat)] (by rfl) rfl (by intro j u hj;exact zA1 (heap_at _ _ _ (by simp)) j u hj) (by simp [Value.oneCell']) (by decide) HN63.out.1 HN63.out.2 (by have:=HJ.out.1.le;have:=HOK.out.le;simp;omega) (w1.heap.size+2) (by simp) ?_;intro gg capg w4 hown4 hgrow hat4 hlt4;have HO4:Hid (w4.ownsRow w.heap.size 140 4 (.slice (some ⟨gg,0,none⟩) (N0+1) capg) (N0+1) (xs++[.int .i64 (k:Nat),.string b,.int .i64 n,.int .i64 (m:Nat)])):=hown4;have HG4:Hid (((w1.alloc (.cells #[.int .i64 (k:Nat),.string b,.int .i64 n,.int .i64 (m:Nat)] 140)).alloc (.cells #[.int .i64 (k:Nat),.string b,.int .i64 n,.int .i64 (m:Nat)] 140)).grownBy w4 (Value.slice oo N0 oc).ownBlock):=hgrow;obtain ⟨hlt1,c1,hmw,hf⟩:=ys7 hs HJ.out.1 HOW.out HTR.out HOK.out HJL.out HL.out HNB.out HPS.out HBT.out HG4.out HO4.out;have HF:Hid (TI w s w4 (.slice (some ⟨gg,0,none⟩) (N0+1) capg) (N0+1) (m+b.size)/\m+b.size<=s.size/\1<=b.size):=hf;clear hown4 hgrow hat4 hf)
       | fail)
      go_roundw
      case rel=>exact ⟨m+b.size,N0+1,_,_,HF.out.2.1,rfl,rfl,HF.out.1⟩
      case measure=>have:=HF.out.2;simp only [intOf];omega
   ·have hjl':¬(j:Int)<(s.size:Int):=zb3 hjl
    have HE:Hid (∃ ts xs,lexS s.toList=.inr ts/\wr.ownsRow w.heap.size 140 4 (.slice oo N0 oc) ts.length xs/\TkIs xs ts):=TI.done HJ.out HL.out hjl
    go_wp2_with fail
    (try simp only [Exit.inBlock,Exit.then]);refine bodyPost_ret (results_tmp3 rfl _ _ _) rfl ?_
    refine ⟨?_,HJ.out.1⟩
    unfold ToksIs
    obtain ⟨ts,xs,h1,h2,h3⟩:=HE.out
    rw [h1]
    exact ⟨_,xs,rfl,h2,h3⟩
end
section
structure Ed where
 from':Int
 to':Int
 op:Int
 place:Int
 sense:Bool
 loop:Bool
def edV (e:Ed):List Value:=[.int .i64 e.from',.int .i64 e.to',.int .i64 e.op,.int .i64 e.place,.bool e.sense,.bool e.loop]
def edL (es:List Ed):List Value:=(es.map edV).flatten
end
end Go.Proofs.YtenoopfeplalnaaGreatDoor
