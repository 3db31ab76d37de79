import Derived.Test.YthoegkcpmgalbaaGreatDoorKLb
set_option maxHeartbeats 8000000
set_option linter.all false
set_option maxRecDepth 100000
namespace Go.Proofs.YthoegkcpmgalbaaGreatDoor
open Go.RowKit
variable{N0 e fuel g i j k:Nat}{b s:ByteArray}{l t:List UInt8}{n:Int}{v:Value}{w w1 wr:World}{xs:List Value}
def sgs:List ByteArray:=[⟨#[60,61]⟩,⟨#[62,61]⟩,⟨#[61,61]⟩,⟨#[33,61]⟩,⟨#[38,38]⟩,⟨#[124,124]⟩,⟨#[58,61]⟩,⟨#[43]⟩,⟨#[45]⟩,⟨#[42]⟩,⟨#[47]⟩,⟨#[37]⟩,⟨#[60]⟩,⟨#[62]⟩,⟨#[33]⟩,⟨#[40]⟩,⟨#[41]⟩,⟨#[91]⟩,⟨#[93]⟩,⟨#[123]⟩,⟨#[125]⟩,⟨#[59]⟩]
def yf3(w:World):Calls Tryz.prog 112 #[] w λe w'=>e=.returned (.slice (sA w.heap.size 0) 22 22)/\w'=w.alloc (.cells (sgs.map Value.string).toArray 9):=by go_enter Tryz.func112,Tryz.ntmps112;go_wp2_with fail;go_ret;exact⟨rfl,rfl⟩
def okc(c:UInt8):Bool:=DD c||CC c
def EX:List ByteArray->List UInt8->Option ByteArray
 | [],_=>none
 | x::r,l=>if x.toList==l.take x.size&&decide (x.size<=l.length) then some x else EX r l
def BC(l:List UInt8):Nat⊕(Nat×List UInt8×Int) :=
 match l with
 | []=>.inl 20
 | c::r =>
  if DD c then (if 16<DO okc l then .inl 21 else .inr (0,l.take (DO okc l),0))
  else if CC c then
   (if !ED (l.take (DO CC l))||((l.drop (DO CC l)).head?.map DD).getD false then .inl 22 else .inr (1,l.take (DO CC l),wg6 0 (l.take (DO CC l))))
  else match EX sgs l with
   | none=>.inl 20
   | some x=>.inr (2,x.toList,0)
def wt5:Value:=.agg #[nI 0,.string ⟨#[]⟩,nI 0,nI 0]
def CQ(l:List UInt8)(i:Nat)(e:Ending):Prop :=
 match BC l with
 | .inl err=>e=.returned (.tuple #[wt5,nI (err:Nat)])
 | .inr (k,t,n)=>∃b:ByteArray,b.toList=t/\e=.returned (.tuple #[.agg #[nI (k:Nat),.string b,nI n,nI (i:Nat)],nI 0])
def zg2{a b c d:Value}{t:TypeId}(D:w.heap[g]?=some (.cells #[a,b,c,d] t (0,0)))(x y z u:Value):((((w.setCell (aD g 0) x).setCell (aD g 1) y).setCell (aD g 2) z).setCell (aD g 3) u).heap[g]?=some (.cells #[x,y,z,u] t (0,0)):=by have I:=heap_setCell_same w g 0 _ t x D;have G:=heap_setCell_same _ g 1 _ t y I;have J:=heap_setCell_same _ g 2 _ t z G;have o:=heap_setCell_same _ g 3 _ t u J;simpa using o
def za6{a b c d:Value}{t:TypeId}(h:w.heap[g]?=some (.cells #[a,b,c,d] t (0,0))) :
  w.cell? (aD g 0)=some a/\w.cell? (aD g 1)=some b/\w.cell? (aD g 2)=some c/\w.cell? (aD g 3)=some d/\w.frozen? (aD g 0)=false/\w.frozen? (aD g 1)=false/\w.frozen? (aD g 2)=false/\w.frozen? (aD g 3)=false:=by
 refine⟨?_,?_,?_,?_,frozen_of_row _ _ _ _ _ h,frozen_of_row _ _ _ _ _ h,frozen_of_row _ _ _ _ _ h,frozen_of_row _ _ _ _ _ h⟩
 ·exact(cell_of_row _ _ 0 _ _ _ h).trans sI
 ·exact(cell_of_row _ _ 1 _ _ _ h).trans sI
 ·exact(cell_of_row _ _ 2 _ _ _ h).trans sI
 exact(cell_of_row _ _ 3 _ _ _ h).trans sI
def EE:(Tryz.prog.info? 164).map (·.size)=some 4:=by kernel_rfl
def Z4(w:World):World:=w.alloc (.cells #[nI 0,.string ⟨#[]⟩,nI 0,nI 0] 164)
def zR0(w:World):(Z4 w).heap[w.heap.size]?=some (.cells #[nI 0,.string ⟨#[]⟩,nI 0,nI 0] 164 (0,0)):=za3 _ _
def wd3(w:World)(x y z u:Value):Ok w ((((Z4 w).setCell (aD w.heap.size 0) x).setCell (aD w.heap.size 1) y).setCell (aD w.heap.size 2) z |>.setCell (aD w.heap.size 3) u) :=
 (((((Ok.refl w).alloc _).set (p:=⟨w.heap.size,0,none⟩) (nR_ _) _).set (p:=⟨w.heap.size,1,none⟩) (nR_ _) _).set (p:=⟨w.heap.size,2,none⟩) (nR_ _) _).set (p:=⟨w.heap.size,3,none⟩) (nR_ _) _
def zV4(s:ByteArray)(i:Nat)(J:i<s.size)(hs:s.size<=1000000)(I:DD s[i]=true)(w:World) :
  Calls Tryz.prog 71 #[.string s,nI (i:Nat)] w λe w'=>CQ (s.toList.drop i) i e/\Ok w w':=by
 have L:(i:Int)<(s.size:Int):=by omega
 obtain⟨c,D⟩:=qq (s[i]);have HD:Hi (s.toList.drop i=c::s.toList.drop (i+1)):=by rw[D];exact zd7 s i J
 have K:(s[i].toNat:Int)=(c.toNat:Int):=by rw[D]
 have d:DD c=true:=by rw[D];exact I
 have HI:=hid J;obtain⟨n,G⟩:=qq (DO okc (s.toList.drop i))
 have HP:Hi (BC (s.toList.drop i)=if 16<n then .inl 21 else .inr (0,(s.toList.drop i).take n,0)):=by unfold Hi;rw[G,HD.o];simp only[BC,d,dD]
 have HN:Hi (n=DO okc (s.toList.drop i)):=G;clear G D I;go_enter Tryz.func71,Tryz.ntmps71
 go_wp2_with (go_at_call 108;refine mq (ze0 c _) λw1 D=>?_;replace D:=D.symm;subst D;rw[d])
 obtain⟨W,I⟩:=qq (Z4 w);have G:W=w.alloc (.cells #[nI 0,.string ⟨#[]⟩,nI 0,nI 0] 164):=I;rw[<-G];have Y:Hi (W.heap[w.heap.size]?=some (.cells #[nI 0,.string ⟨#[]⟩,nI 0,nI 0] 164 (0,0))):=by rw[I];exact zR0 w
 have HW:Hi (W=Z4 w):=I;clear I G;go_loopw [6] (λx wr=>∃(j:Nat),i<=j/\j<=s.size/\x=nI (j:Nat)/\Hi (n=(j-i)+DO okc (s.toList.drop j))/\wr=W) (λx _=>((s.size:Int)-intOf x).toNat)
 case atStart=>exact⟨i,aK _,dL HI.o,rfl,by unfold Hi;rw[HN.o];omega,rfl⟩
 obtain⟨j,a6,hj,rfl,HJ,rfl⟩:=hrel;clear L K d J;by_cases I:j<s.size
 ·have a1:(j:Int)<(s.size:Int):=za5 I
  have a5:IntKind.i64.wrap ((j:Int)+1)=((j+1:Nat):Int):=zb3 oM;obtain⟨d,Z⟩:=qq (s[j]);have a7:(s[j].toNat:Int)=(d.toNat:Int):=by rw[Z]
  cases R:okc d with
  | true =>
   have O:Hi (n=(j+1-i)+DO okc (s.toList.drop (j+1))):=by unfold Hi;rw[HJ.o,zL0 I (by rw[<-Z];exact R)];omega
   clear Z
   cases K:DD d with
   | true =>
    clear R
    go_wp2_with (go_at_call 108;refine mq (ze0 d _) λw1 D=>?_;replace D:=D.symm;subst D;rw[K])
    go_roundw
    case rel=>exact⟨j+1,by omega,I,rfl,O,trivial⟩
    case measure=>exact we3 I
   | false =>
    have X:CC d=true:=by unfold okc at R;rw[K]at R;simpa using R
    clear R
    go_wp2_with (first|(go_at_call 108;refine mq (ze0 d _) λw1 D=>?_;replace D:=D.symm;subst D;rw[K]) | (go_at_call 109;refine mq (ze9 d _) λw1 D=>?_;replace D:=D.symm;subst D;rw[X])|fail)
    go_roundw
    case rel=>exact⟨j+1,by omega,I,rfl,O,trivial⟩
    case measure=>exact we3 I
  | false =>
   have O:Hi (n=j-i):=by unfold Hi;rw[HJ.o,yf0 I (by rw[<-Z];exact R)];omega
   have K:DD d=false:=by unfold okc at R;cases h:DD d<;>simp_all
   have X:CC d=false:=by unfold okc at R;cases h:CC d<;>simp_all
   clear Z R;have a3:IntKind.i64.wrap ((j:Int)-(i:Int))=(n:Int):=zd3 (oH O.o) (oH O.o);have a2:(i:Int)<=(j:Int):=by omega
   obtain⟨f0,f1,f2,f3,z0,z1,z2,z3⟩:=za6 Y.o;have a4:=za2 Y.o;by_cases G:16<n
   ·have L:(16:Int)<(n:Int):=by omega
    have J:Hi (BC (s.toList.drop i)=.inl 21):=by unfold Hi;rw[HP.o,aG G]
    clear G
    go_wp2_with (first|(go_at_call 108;refine mq (ze0 d _) λw1 D=>?_;replace D:=D.symm;subst D;rw[K]) | (go_at_call 109;refine mq (ze9 d _) λw1 D=>?_;replace D:=D.symm;subst D;rw[X])|fail)
    (try simp only[Exit.inBlock,Exit.then]);refine bodyPost_ret (zc0 rfl _ _ (w.heap.size) 164 #[_,_,_,_] (0,0) _ rfl (zg2 Y.o _ _ _ _) Tryz.underlying164 rfl EE) rfl ?_;refine⟨?_,by rw[HW.o];exact wd3 w _ _ _ _⟩;unfold CQ;rw[J.o];rfl
   have L:¬(16:Int)<(n:Int):=by omega
   have J:Hi (BC (s.toList.drop i)=.inr (0,(s.toList.drop i).take n,0)):=by unfold Hi;rw[HP.o,aC G]
   clear G
   go_wp2_with (first|(go_at_call 108;refine mq (ze0 d _) λw1 D=>?_;replace D:=D.symm;subst D;rw[K]) | (go_at_call 109;refine mq (ze9 d _) λw1 D=>?_;replace D:=D.symm;subst D;rw[X])|fail)
   (try simp only[Exit.inBlock,Exit.then]);refine bodyPost_ret (zc0 rfl _ _ (w.heap.size) 164 #[_,_,_,_] (0,0) _ rfl (zg2 Y.o _ _ _ _) Tryz.underlying164 rfl EE) rfl ?_;refine⟨?_,by rw[HW.o];exact wd3 w _ _ _ _⟩;unfold CQ;rw[J.o];exact⟨s.extract i j,by rw[ze5,O.o],rfl⟩
 have a1:¬(j:Int)<(s.size:Int):=zb2 I;have O:Hi (n=j-i):=by unfold Hi;rw[HJ.o,zL1 I];omega
 have a3:IntKind.i64.wrap ((j:Int)-(i:Int))=(n:Int):=zd3 (oH O.o) (oH O.o);have a2:(i:Int)<=(j:Int):=by omega
 obtain⟨f0,f1,f2,f3,z0,z1,z2,z3⟩:=za6 Y.o;have a4:=za2 Y.o;by_cases G:16<n
 ·have L:(16:Int)<(n:Int):=by omega
  have J:Hi (BC (s.toList.drop i)=.inl 21):=by unfold Hi;rw[HP.o,aG G]
  clear G;go_wp2_with fail;(try simp only[Exit.inBlock,Exit.then]);refine bodyPost_ret (zc0 rfl _ _ (w.heap.size) 164 #[_,_,_,_] (0,0) _ rfl (zg2 Y.o _ _ _ _) Tryz.underlying164 rfl EE) rfl ?_;refine⟨?_,by rw[HW.o];exact wd3 w _ _ _ _⟩;unfold CQ;rw[J.o];rfl
 have L:¬(16:Int)<(n:Int):=by omega
 have J:Hi (BC (s.toList.drop i)=.inr (0,(s.toList.drop i).take n,0)):=by unfold Hi;rw[HP.o,aC G]
 clear G;go_wp2_with fail;(try simp only[Exit.inBlock,Exit.then]);refine bodyPost_ret (zc0 rfl _ _ (w.heap.size) 164 #[_,_,_,_] (0,0) _ rfl (zg2 Y.o _ _ _ _) Tryz.underlying164 rfl EE) rfl ?_;refine⟨?_,by rw[HW.o];exact wd3 w _ _ _ _⟩;unfold CQ;rw[J.o];exact⟨s.extract i j,by rw[ze5,O.o],rfl⟩
def yq3(s:ByteArray)(h:i<=j)(d:j<=s.size):(s.extract i j).size=j-i:=by rw[fN];omega
def yA0(s:ByteArray)(o:j<=s.size)(d:k<(s.extract i j).size):(s.extract i j)[k]=s[i+k]'(by rw[fN]at d;omega):=by rw[ByteArray.getElem_extract]
def yf4(s:ByteArray)(i:Nat)(K:i<s.size)(hs:s.size<=1000000)(R:DD s[i]=false)(I:CC s[i]=true)(w:World) :
  Calls Tryz.prog 71 #[.string s,nI (i:Nat)] w λe w'=>CQ (s.toList.drop i) i e/\Ok w w':=by
 have O:(i:Int)<(s.size:Int):=by omega
 obtain⟨c,D⟩:=qq (s[i]);have HD:Hi (s.toList.drop i=c::s.toList.drop (i+1)):=by rw[D];exact zd7 s i K
 have L:(s[i].toNat:Int)=(c.toNat:Int):=by rw[D]
 have d:DD c=false:=by rw[D];exact R
 have G:CC c=true:=by rw[D];exact I
 have HI:=hid K;obtain⟨n,J⟩:=qq (DO CC (s.toList.drop i))
 have HP:Hi (BC (s.toList.drop i)=if (!ED ((s.toList.drop i).take n)||(((s.toList.drop i).drop n).head?.map DD).getD false)=true then .inl 22 else .inr (1,(s.toList.drop i).take n,wg6 0 ((s.toList.drop i).take n))):=by unfold Hi;rw[J,HD.o];simp only[BC,d,G];rfl
 have HN:Hi (n=DO CC (s.toList.drop i)):=J;clear J D R I;go_enter Tryz.func71,Tryz.ntmps71
 go_wp2_with (first|(go_at_call 108;refine mq (ze0 c _) λw1 D=>?_;replace D:=D.symm;subst D;rw[d]) | (go_at_call 109;refine mq (ze9 c _) λw1 D=>?_;replace D:=D.symm;subst D;rw[G])|fail)
 obtain⟨W,J⟩:=qq (Z4 w);have I:W=w.alloc (.cells #[nI 0,.string ⟨#[]⟩,nI 0,nI 0] 164):=J;rw[<-I];have HR:Hi (W.heap[w.heap.size]?=some (.cells #[nI 0,.string ⟨#[]⟩,nI 0,nI 0] 164 (0,0))):=by rw[J];exact zR0 w
 have HW:Hi (W=Z4 w):=J;clear J I;go_loopw [6] (λx wr=>∃(j:Nat),i<=j/\j<=s.size/\x=nI (j:Nat)/\Hi (n=(j-i)+DO CC (s.toList.drop j)/\∀k (h:k<s.size),i<=k->k<j->CC s[k]=true)/\wr=W) (λx _=>((s.size:Int)-intOf x).toNat)
 case atStart=>exact⟨i,aK _,dL HI.o,rfl,⟨by rw[HN.o];omega,λk h h1 h2=>by omega⟩,rfl⟩
 obtain⟨j,a5,hj,rfl,HJ,rfl⟩:=hrel;clear O L d G K;have a6:(i:Int)<=(j:Int):=by omega
 obtain⟨f0,f1,f2,f3,z0,z1,z2,z3⟩:=za6 HR.o;have a8:=za2 HR.o;have K:Hi ((s.extract i j).size=j-i/\(s.extract i j).size<=1000000):=by have:=yq3 s a5 hj;exact⟨this,by omega⟩
 have a4:Hi (∀k (h:k<(s.extract i j).size),CC (s.extract i j)[k]=true):=λk h=>by rw[yA0 s hj h];exact HJ.o.2 _ _ (by omega) (by rw[K.o.1]at h;omega)
 obtain⟨vl,d⟩:=qq (wg6 0 (s.extract i j).toList);have a2:Hi (vl=wg6 0 (s.extract i j).toList):=d;clear d;obtain⟨sm,d⟩:=qq (ED (s.extract i j).toList);have R:Hi (sm=ED (s.extract i j).toList):=d;clear d;by_cases I:j<s.size
 ·have a3:(j:Int)<(s.size:Int):=za5 I
  have a7:IntKind.i64.wrap ((j:Int)+1)=((j+1:Nat):Int):=zb3 oM;obtain⟨d,hd⟩:=qq (s[j]);have a9:(s[j].toNat:Int)=(d.toNat:Int):=by rw[hd]
  cases O:CC d with
  | true =>
   have X:Hi (n=(j+1-i)+DO CC (s.toList.drop (j+1))/\∀k (h:k<s.size),i<=k->k<j+1->CC s[k]=true):=by
    refine⟨by rw[HJ.o.1,zL0 I (by rw[<-hd];exact O)];omega,λk h h1 h2=>?_⟩;by_cases e:k=j
    ·subst e;rw[<-hd];exact O
    exact HJ.o.2 k h h1 oM
   clear hd
   go_wp2_with (first|(go_at_call 109;refine mq (ze9 d _) λw1 D=>?_;replace D:=D.symm;subst D;rw[O])|fail)
   go_roundw
   case rel=>exact⟨j+1,by omega,I,rfl,X,trivial⟩
   case measure=>exact we3 I
  | false =>
   have X:Hi (n=j-i):=by unfold Hi;rw[HJ.o.1,yf0 I (by rw[<-hd];exact O)];omega
   have Y:Hi (sm=ED ((s.toList.drop i).take n)):=by unfold Hi;rw[R.o,ze5,X.o]
   have Z:Hi ((((s.toList.drop i).drop n).head?.map DD).getD false=DD d):=by unfold Hi;rw[eW,show i+n=j by rw[X.o];omega,zd7 s j I,<-hd];rfl
   clear hd
   cases G:sm with
   | false =>
    have L:ED (s.extract i j).toList=false:=by rw[<-R.o];exact G
    have J:Hi (BC (s.toList.drop i)=.inl 22):=by unfold Hi;rw[HP.o,aG];rw[cR];left;rw[<-Y.o,G];rfl
    go_wp2_with (first|(go_at_call 109;refine mq (ze9 d _) λw1 D=>?_;replace D:=D.symm;subst D;rw[O]) | (go_at_call 110;refine mq (zm3 (s.extract i j) K.o.2 _) λw1 D=>?_;replace D:=D.symm;subst D;rw[L])|fail)
    (try simp only[Exit.inBlock,Exit.then]);refine bodyPost_ret (zc0 rfl _ _ (w.heap.size) 164 #[_,_,_,_] (0,0) _ rfl (zg2 HR.o _ _ _ _) Tryz.underlying164 rfl EE) rfl ?_;refine⟨?_,by rw[HW.o];exact wd3 w _ _ _ _⟩;unfold CQ;rw[J.o];rfl
   | true =>
    have L:ED (s.extract i j).toList=true:=by rw[<-R.o];exact G
    cases a1:DD d with
    | true =>
     have J:Hi (BC (s.toList.drop i)=.inl 22):=by unfold Hi;rw[HP.o,aG];rw[cR];right;rw[Z.o,a1]
     go_wp2_with (first|(go_at_call 109;refine mq (ze9 d _) λw1 D=>?_;replace D:=D.symm;subst D;rw[O]) | (go_at_call 110;refine mq (zm3 (s.extract i j) K.o.2 _) λw1 D=>?_;replace D:=D.symm;subst D;rw[L]) | (go_at_call 108;refine mq (ze0 d _) λw1 D=>?_;replace D:=D.symm;subst D;rw[a1])|fail)
     (try simp only[Exit.inBlock,Exit.then]);refine bodyPost_ret (zc0 rfl _ _ (w.heap.size) 164 #[_,_,_,_] (0,0) _ rfl (zg2 HR.o _ _ _ _) Tryz.underlying164 rfl EE) rfl ?_;refine⟨?_,by rw[HW.o];exact wd3 w _ _ _ _⟩;unfold CQ;rw[J.o];rfl
    | false =>
     have J:Hi (BC (s.toList.drop i)=.inr (1,(s.toList.drop i).take n,vl)):=by
      unfold Hi;rw[HP.o,aC,a2.o,ze5,X.o];rw[cR];rintro(h | h)
      ·rw[<-Y.o,G]at h;cases h
      rw[Z.o,a1]at h;cases h
     go_wp2_with (first|(go_at_call 109;refine mq (ze9 d _) λw1 D=>?_;replace D:=D.symm;subst D;rw[O]) | (go_at_call 110;refine mq (zm3 (s.extract i j) K.o.2 _) λw1 D=>?_;replace D:=D.symm;subst D;rw[L]) | (go_at_call 108;refine mq (ze0 d _) λw1 D=>?_;replace D:=D.symm;subst D;rw[a1])|fail)
     go_region_with (go_at_call 111;refine mq (zG3 (s.extract i j) K.o.2 a4.o _) λw1 D=>?_;replace D:=D.symm;subst D;rw[<-a2.o])
     all_goals
      go_wp2_with fail;(try simp only[Exit.inBlock,Exit.then]);refine bodyPost_ret (zc0 rfl _ _ (w.heap.size) 164 #[_,_,_,_] (0,0) _ rfl (zg2 HR.o _ _ _ _) Tryz.underlying164 rfl EE) rfl ?_;refine⟨?_,by rw[HW.o];exact(wd3 w _ _ _ _).draws 1⟩;unfold CQ;rw[J.o];exact⟨s.extract i j,by rw[ze5,X.o],rfl⟩
 have a3:¬(j:Int)<(s.size:Int):=zb2 I;have X:Hi (n=j-i):=by unfold Hi;rw[HJ.o.1,zL1 I];omega
 have Y:Hi (sm=ED ((s.toList.drop i).take n)):=by unfold Hi;rw[R.o,ze5,X.o]
 have Z:Hi ((((s.toList.drop i).drop n).head?.map DD).getD false=false):=by unfold Hi;rw[eW,show i+n=j by rw[X.o];omega,zm2 s j I];rfl
 cases G:sm with
 | false =>
  have L:ED (s.extract i j).toList=false:=by rw[<-R.o];exact G
  have J:Hi (BC (s.toList.drop i)=.inl 22):=by unfold Hi;rw[HP.o,aG];rw[cR];left;rw[<-Y.o,G];rfl
  go_wp2_with (first|(go_at_call 110;refine mq (zm3 (s.extract i j) K.o.2 _) λw1 D=>?_;replace D:=D.symm;subst D;rw[L])|fail)
  (try simp only[Exit.inBlock,Exit.then]);refine bodyPost_ret (zc0 rfl _ _ (w.heap.size) 164 #[_,_,_,_] (0,0) _ rfl (zg2 HR.o _ _ _ _) Tryz.underlying164 rfl EE) rfl ?_;refine⟨?_,by rw[HW.o];exact wd3 w _ _ _ _⟩;unfold CQ;rw[J.o];rfl
 | true =>
  have L:ED (s.extract i j).toList=true:=by rw[<-R.o];exact G
  have J:Hi (BC (s.toList.drop i)=.inr (1,(s.toList.drop i).take n,vl)):=by
   unfold Hi;rw[HP.o,aC,a2.o,ze5,X.o];rw[cR];rintro(h | h)
   ·rw[<-Y.o,G]at h;cases h
   rw[Z.o]at h;cases h
  go_wp2_with (first|(go_at_call 110;refine mq (zm3 (s.extract i j) K.o.2 _) λw1 D=>?_;replace D:=D.symm;subst D;rw[L])|fail)
  go_region_with (go_at_call 111;refine mq (zG3 (s.extract i j) K.o.2 a4.o _) λw1 D=>?_;replace D:=D.symm;subst D;rw[<-a2.o])
  all_goals
   go_wp2_with fail;(try simp only[Exit.inBlock,Exit.then]);refine bodyPost_ret (zc0 rfl _ _ (w.heap.size) 164 #[_,_,_,_] (0,0) _ rfl (zg2 HR.o _ _ _ _) Tryz.underlying164 rfl EE) rfl ?_;refine⟨?_,by rw[HW.o];exact(wd3 w _ _ _ _).draws 1⟩;unfold CQ;rw[J.o];exact⟨s.extract i j,by rw[ze5,X.o],rfl⟩
def zR1:∀b∈sgs,1<=b.size/\b.size<=2:=by decide
def zG4(h:k<22)(d:((sgs[k]'h).toList==l.take (sgs[k]'h).size&&decide ((sgs[k]'h).size<=l.length))=false):EX (sgs.drop k) l=EX (sgs.drop (k+1)) l:=by rw[aP h];simp only[EX];rw[d];rfl
def yq4(h:k<22)(d:((sgs[k]'h).toList==l.take (sgs[k]'h).size&&decide ((sgs[k]'h).size<=l.length))=true):EX (sgs.drop k) l=some (sgs[k]'h):=by rw[aP h];simp only[EX];rw[d];rfl
def Z5(w:World):World:=(Z4 w).alloc (.cells (sgs.map Value.string).toArray 9)
def yD7(w:World):(Z5 w).heap[w.heap.size]?=some (.cells #[nI 0,.string ⟨#[]⟩,nI 0,nI 0] 164 (0,0)):=heap_past _ _ _ (za2 (zR0 w)) (zR0 w)
def yA1(w:World):(Z4 w).heap.size=w.heap.size+1:=iG _
def yD8(w:World):(Z5 w).heap[w.heap.size+1]?=some (.cells (sgs.map Value.string).toArray 9 (0,0)):=heap_at _ _ _ (yA1 w).symm
def wt6(w:World):Ok w (Z5 w):=((Ok.refl w).alloc _).alloc _
def yq5(h:k<22)(d:w.heap[g]?=some (.cells (sgs.map Value.string).toArray 9 (0,0))):w.cell? (aD g k)=some (.string (sgs[k]'h)):=by
 have o:(sgs.map Value.string).toArray[k]?=some (.string (sgs[k]'h)):=by rw[fQ,aX,aJ (show k<sgs.length from h)];rfl
 exact(cell_of_row _ _ k _ _ _ d).trans o
def yA2(h:i+b.size<=s.size):(b.toList==(s.toList.drop i).take b.size&&decide (b.size<=(s.toList.drop i).length))=((s.extract i (i+b.size)).toList==b.toList):=by rw[ze5,show i+b.size-i=b.size by omega,aV (by rw[cW,zc2];omega),Bool.and_true];exact BEq.comm
def yq6(hi:i<s.size)(h:¬i+b.size<=s.size):(b.toList==(s.toList.drop i).take b.size&&decide (b.size<=(s.toList.drop i).length))=false:=by rw[aN (by rw[cW,zc2];omega),cL]
def yf5(h:Ok w w1)(x y z u:Value):Ok w ((((w1.setCell (aD w.heap.size 0) x).setCell (aD w.heap.size 1) y).setCell (aD w.heap.size 2) z).setCell (aD w.heap.size 3) u) :=
 (((h.set (p:=⟨w.heap.size,0,none⟩) (nR_ _) _).set (p:=⟨w.heap.size,1,none⟩) (nR_ _) _).set (p:=⟨w.heap.size,2,none⟩) (nR_ _) _).set (p:=⟨w.heap.size,3,none⟩) (nR_ _) _
def wn6(h:k<22):((22:Int)-intOf (nI ((k:Int)+1))).toNat<((22:Int)-intOf (nI (k:Int))).toNat:=by simp only[intOf];omega
def SW(w wr:World):Prop:=Ok w wr/\wr.heap[w.heap.size]?=some (.cells #[nI 0,.string ⟨#[]⟩,nI 0,nI 0] 164 (0,0))/\wr.heap[w.heap.size+1]?=some (.cells (sgs.map Value.string).toArray 9 (0,0))
def SW.draws(h:SW w wr)(n:Nat):SW w (wr.drewN n):=⟨h.1.draws n,h.2.1,h.2.2⟩
def zV5(s:ByteArray)(i:Nat)(K:i<s.size)(hs:s.size<=1000000)(J:DD s[i]=false)(I:CC s[i]=false)(w:World) :
  Calls Tryz.prog 71 #[.string s,nI (i:Nat)] w λe w'=>CQ (s.toList.drop i) i e/\Ok w w':=by
 have O:(i:Int)<(s.size:Int):=by omega
 obtain⟨c,D⟩:=qq (s[i]);have HD:Hi (s.toList.drop i=c::s.toList.drop (i+1)):=by rw[D];exact zd7 s i K
 have L:(s[i].toNat:Int)=(c.toNat:Int):=by rw[D]
 have d:DD c=false:=by rw[D];exact J
 have G:CC c=false:=by rw[D];exact I
 have HI:=hid K
 have HP:Hi (BC (s.toList.drop i)=match EX sgs (s.toList.drop i) with | none=>.inl 20 | some x=>.inr (2,x.toList,0)):=by unfold Hi;rw[HD.o];simp only[BC,d,G];rfl
 clear D J I;go_enter Tryz.func71,Tryz.ntmps71
 go_wp2_with (first|(go_at_call 108;refine(ze0 c _).mono ?_;rintro e w1 ⟨rfl,I⟩;replace I:=I.symm;subst I;rw[d]) | (go_at_call 109;refine(ze9 c _).mono ?_;rintro e w1 ⟨rfl,I⟩;replace I:=I.symm;subst I;rw[G]) | (go_at_call 112;refine(yf3 _).mono ?_;rintro e w1 ⟨rfl,rfl⟩)|fail)
 obtain⟨W,R⟩:=qq (Z5 w);have J:W=(w.alloc (.cells #[nI 0,.string ⟨#[]⟩,nI 0,nI 0] 164)).alloc (.cells (sgs.map Value.string).toArray 9):=R;rw[<-J];have D:Hi (SW w W):=by unfold Hi;rw[R];exact⟨wt6 w,yD7 w,yD8 w⟩
 clear R J;go_loopw [8] (λx wr=>∃(k:Nat),k<=22/\x=nI (k:Nat)/\Hi (EX sgs (s.toList.drop i)=EX (sgs.drop k) (s.toList.drop i))/\Hi (SW w wr)) (λx _=>((22:Int)-intOf x).toNat)
 case atStart=>exact⟨0,zL_ _,rfl,rfl,D⟩
 obtain⟨k,hk,rfl,Y,D⟩:=hrel;clear O L d G K;obtain⟨f0,f1,f2,f3,z0,z1,z2,z3⟩:=za6 D.o.2.1;have a4:=za2 D.o.2.1;by_cases d:k<22
 ·have a1:(k:Int)<22:=by omega
  have a5:IntKind.i64.wrap ((k:Int)+1)=((k+1:Nat):Int):=zb3 oM;have J:=yq5 d D.o.2.2;obtain⟨b,G⟩:=qq (sgs[k]'d);rw[<-G]at J;have R:Hi (b=sgs[k]'d/\1<=b.size/\b.size<=2):=⟨G,zR1 b (by rw[G];exact cB _)⟩;clear G;obtain⟨m,G⟩:=qq (i+b.size);have a2:IntKind.i64.wrap ((i:Int)+(b.size:Int))=(m:Int):=zd3 oM (oK R.o HI.o);have a3:(i:Int)<=(m:Int):=by omega
  have Z:Hi (m=i+b.size):=G;clear G;by_cases G:m<=s.size
  ·have L:decide (m<=s.size)=true:=dT_ G
   have O:(m:Int)<=(s.size:Int):=by omega
   have X:=yA2 (b:=b) (i:=i) (s:=s) (by rw[<-Z.o];exact G);rw[<-Z.o]at X
   cases he:((s.extract i m).toList==b.toList) with
   | true =>
    have K:Hi (BC (s.toList.drop i)=.inr (2,b.toList,0)):=by unfold Hi;rw[HP.o,Y.o,yq4 d (by rw[<-R.o.1,X,he]),R.o.1]
    clear X;go_wp2_with fail;go_quiet (fail);go_wp2_with fail;(try simp only[Exit.inBlock,Exit.then]);refine bodyPost_ret (zc0 rfl _ _ (w.heap.size) 164 #[_,_,_,_] (0,0) _ rfl (zg2 (D.o.draws _).2.1 _ _ _ _) Tryz.underlying164 rfl EE) rfl ?_;refine⟨?_,yf5 (D.o.draws _).1 _ _ _ _⟩;unfold CQ;rw[K.o];exact⟨b,rfl,rfl⟩
   | false =>
    have HN:Hi (EX sgs (s.toList.drop i)=EX (sgs.drop (k+1)) (s.toList.drop i)):=by unfold Hi;rw[Y.o,zG4 d (by rw[<-R.o.1,X,he])]
    clear X;go_wp2_with fail;go_quiet (fail);go_wp2_with fail;exact⟨⟨k+1,d,rfl,HN,D.o.draws _⟩,wn6 d⟩
  have L:decide (m<=s.size)=false:=dF_ G;have O:¬(m:Int)<=(s.size:Int):=by omega
  have HN:Hi (EX sgs (s.toList.drop i)=EX (sgs.drop (k+1)) (s.toList.drop i)):=by unfold Hi;rw[Y.o,zG4 d (by rw[<-R.o.1];exact yq6 HI.o (by rw[<-Z.o];exact G))]
  go_wp2_with fail;go_quiet (fail);go_wp2_with fail;exact⟨⟨k+1,d,rfl,HN,D.o.draws _⟩,wn6 d⟩
 have G:k=22:=by omega
 subst G;have K:Hi (BC (s.toList.drop i)=.inl 20):=by unfold Hi;rw[HP.o,Y.o];rfl
 go_wp2_with fail;(try simp only[Exit.inBlock,Exit.then]);refine bodyPost_ret (zc0 rfl _ _ (w.heap.size) 164 #[_,_,_,_] (0,0) _ rfl (zg2 D.o.2.1 _ _ _ _) Tryz.underlying164 rfl EE) rfl ?_;refine⟨?_,yf5 D.o.1 _ _ _ _⟩;unfold CQ;rw[K.o];rfl
def zG5(s:ByteArray)(i:Nat)(D:i<s.size)(d:s.size<=1000000)(w:World) :
  Calls Tryz.prog 71 #[.string s,nI (i:Nat)] w λe w'=>CQ (s.toList.drop i) i e/\Ok w w':=by
 cases o:DD s[i] with
 | true=>exact zV4 s i D d o w
 | false =>
  cases G:CC s[i] with
  | true=>exact yf4 s i D d o G w
  | false=>exact zV5 s i D d o G w
abbrev Tk:=Nat×List UInt8×Int×Nat
def wa9:Nat->List UInt8->Nat->(Nat×Nat)⊕List Tk
 | 0,_,_=>.inr []
 | fuel+1,l,i =>
  match l with
  | []=>.inr []
  | _::_ =>
   if 0<EN l then wa9 fuel (l.drop (EN l)) (i+EN l)
   else match BC l with
    | .inl e=>.inl (e,i)
    | .inr (k,t,n) =>
     match wa9 fuel (l.drop t.length) (i+t.length) with
     | .inl e=>.inl e
     | .inr r=>.inr ((k,t,n,i)::r)
def DY(l:List UInt8):(Nat×Nat)⊕List Tk:=if 8192<l.length then .inl (21,8192) else wa9 (l.length+1) l 0
def wb1(xs:List Value):List Tk->Prop
 | []=>xs=[]
 |(k,t,n,i)::r=>∃(b:ByteArray) (ys:List Value),b.toList=t/\xs=nI (k:Nat)::.string b::nI n::nI (i:Nat)::ys/\wb1 ys r
def wb1.add:∀{ts:List Tk} {xs:List Value} {k i:Nat} {b:ByteArray} {n:Int},wb1 xs ts->wb1 (xs++[nI (k:Nat),.string b,nI n,nI (i:Nat)]) (ts++[(k,b.toList,n,i)])
 | [],xs,k,i,b,n,h=>by have:xs=[]:=h;subst this;exact⟨b,[],rfl,rfl,rfl⟩
 |(k',t',n',i')::r,xs,k,i,b,n,h=>by obtain⟨d,ys,D,G,o⟩:=h;exact⟨d,_,D,by rw[G];rfl,wb1.add o⟩
def zG6(h:BC l=.inr (k,t,n)):1<=t.length/\t.length<=l.length:=by
 cases l with
 | nil=>cases h
 | cons c r =>
  simp only[BC]at h
  split at h
  ·next hl =>
   have I:DO okc (c::r)=DO okc r+1:=by simp[DO,okc,hl]
   split at h
   ·cases h
   cases h;rw[bH];have:=zA5 okc (c::r);omega
  split at h
  ·next hd =>
   have I:DO CC (c::r)=DO CC r+1:=by simp[DO,hd]
   split at h
   ·cases h
   cases h;rw[bH];have:=zA5 CC (c::r);omega
  split at h
  ·cases h
  next x hx =>
  cases h
  have D:∀(d:List ByteArray),(∀b∈d,1<=b.size/\b.size<=2)->EX d (c::r)=some x->1<=x.size/\x.size<=(c::r).length:=by
   intro d
   induction d with
   | nil=>intro _ h;cases h
   | cons y ys ih =>
    intro G h;simp only[EX]at h
    split at h
    ·next o =>
     cases h;rw[bM,bV]at o;exact⟨(G _ (aY)).1,o.2⟩
    exact ih (λb o=>G b (bG _ o)) h
  have:=D sgs zR1 hx;rw[zc2];exact this
def yA3:∀(l:List UInt8),EN l<=l.length
 | []=>nR_ _
 | c::r=>by
  have:=zA5 wl0 (c::r);simp only[EN]
  split
  ·simp
  split
  ·exact this
  exact zL_ _
def zA6(hl:l≠[])(h:0<EN l):wa9 (fuel+1) l i=wa9 fuel (l.drop (EN l)) (i+EN l):=by
 cases l with
 | nil=>exact absurd rfl hl
 | cons c r=>simp only[wa9];rw[aG h]
def zA7(hl:l≠[])(h:¬0<EN l)(d:BC l=.inl e):wa9 (fuel+1) l i=.inl (e,i):=by
 cases l with
 | nil=>exact absurd rfl hl
 | cons c r=>simp only[wa9];rw[aC h,d]
def zA8(hl:l≠[])(h:¬0<EN l)(d:BC l=.inr (k,t,n)):wa9 (fuel+1) l i=match wa9 fuel (l.drop t.length) (i+t.length) with | .inl e=>.inl e | .inr r=>.inr ((k,t,n,i)::r):=by
 cases l with
 | nil=>exact absurd rfl hl
 | cons c r=>simp only[wa9];rw[aC h,d]
def wm2(ts:List Tk):(Nat×Nat)⊕List Tk->(Nat×Nat)⊕List Tk
 | .inl e=>.inl e
 | .inr r=>.inr (ts++r)
def yf6(ts:List Tk)(x:Tk)(y:(Nat×Nat)⊕List Tk):wm2 ts (match y with | .inl e=>.inl e | .inr r=>.inr (x::r))=wm2 (ts++[x]) y:=by
 cases y with
 | inl e=>rfl
 | inr r=>simp[wm2]
def we4(w:World)(l:List UInt8)(e:Ending)(w':World):Prop :=
 match DY l with
 | .inl (er,at0)=>e=.returned (.tuple #[sZ,nI (er:Nat),nI (at0:Nat)])
 | .inr ts=>∃v xs,e=.returned (.tuple #[v,nI 0,nI 0])/\w'.ownsRow w.heap.size 164 4 v ts.length xs/\wb1 xs ts
def yq7(x:(Nat×Nat)⊕List Tk):wm2 [] x=x:=by cases x<;>rfl
def zG7(h:BC l=.inl e):20<=e:=by
 cases l with
 | nil=>cases h;decide
 | cons c r =>
  simp only[BC]at h
  repeat' split at h
  all_goals cases h
  all_goals decide
def wn7:(Tryz.prog.info? 164).map (λi=>(i.zero,i.size,i.bytes))=some (some (.agg #[nI 0,.string ⟨#[]⟩,nI 0,nI 0]),4,40):=by kernel_rfl
def yq8{w4:World}{x y z u:Value}{o:Obj}{own:Option Nat}(I:((w1.alloc (.cells #[x,y,z,u] 164)).alloc o).grownBy w4 own)(G:∀b,own=some b->b<w1.heap.size):w4.cell? (aD w1.heap.size 1)=some y:=by have d:((w1.alloc (.cells #[x,y,z,u] 164)).alloc o).heap[w1.heap.size]?=some (.cells #[x,y,z,u] 164 (0,0)):=heap_past _ _ _ (za2 (za3 _ _)) (za3 _ _);have D:w4.heap[w1.heap.size]?=some (.cells #[x,y,z,u] 164 (0,0)):=(I.block _ (za2 d) (λe=>by have:=G _ e.symm;omega)).trans d;exact(za6 D).2.1
def TR(s:ByteArray)(xs:List Value)(N0 j:Nat):Prop :=
 ∃ts fuel,wb1 xs ts/\N0=ts.length/\N0<=j/\s.size-j<fuel/\DY s.toList=wm2 ts (wa9 fuel (s.toList.drop j) j)
def TI(w:World)(s:ByteArray)(wr:World)(v:Value)(N0 j:Nat):Prop :=
 Ok w wr/\∃xs,wr.ownsRow w.heap.size 164 4 v N0 xs/\TR s xs N0 j
def zL2(h:j<s.size):s.toList.drop j≠[]:=by rw[zd7 s j h];exact dW _ _
def TI.blank{m:Nat}(h:TI w s wr v N0 j)(R:s.toList.length=s.size)(D:j<s.size)(o:0<EN (s.toList.drop j))(G:m=j+EN (s.toList.drop j)):TI w s wr v N0 m:=by
 obtain⟨d,xs,J,ts,fuel,I,L,O,W,K⟩:=h
 cases fuel with
 | zero=>omega
 | succ f =>
  refine⟨d,xs,J,ts,f,I,L,by omega,by omega,?_⟩;rw[K,zA6 (zL2 D) o,eW,G]
def TI.bad(h:TI w s wr v N0 j)(K:s.toList.length=s.size)(o:j<s.size)(d:¬0<EN (s.toList.drop j))(D:BC (s.toList.drop j)=.inl e):DY s.toList=.inl (e,j):=by
 obtain⟨I,xs,O,ts,fuel,L,W,J,R,G⟩:=h
 cases fuel with
 | zero=>omega
 | succ f=>rw[G,zA7 (zL2 o) d D];rfl
def TI.done(h:TI w s wr v N0 j)(L:s.toList.length=s.size)(d:¬j<s.size):∃ts xs,DY s.toList=.inr ts/\wr.ownsRow w.heap.size 164 4 v ts.length xs/\wb1 xs ts:=by
 obtain⟨J,xs,D,ts,fuel,o,I,K,O,G⟩:=h;refine⟨ts,xs,?_,by rw[<-I];exact D,o⟩
 cases fuel with
 | zero=>omega
 | succ f=>rw[G,zm2 s j d];simp[wa9,wm2]
def TR.more(h:TR s xs N0 j)(K:s.toList.length=s.size)(J:j<s.size)(I:¬0<EN (s.toList.drop j))(G:BC (s.toList.drop j)=.inr (k,t,n))(o:b.toList=t) :
  TR s (xs++[nI (k:Nat),.string b,nI n,nI (j:Nat)]) (N0+1) (j+b.size)/\1<=b.size/\b.size<=s.size-j:=by
 obtain⟨ts,fuel,L,R,W,X,O⟩:=h;have d:=zG6 G;have D:t.length=b.size:=by rw[<-o,zc2]
 rw[D,cW,K]at d;refine⟨?_,d⟩
 cases fuel with
 | zero=>omega
 | succ f =>
  refine⟨ts++[(k,b.toList,n,j)],f,L.add,by rw[aA,R];rfl,by omega,by omega,?_⟩;rw[O,zA8 (zL2 J) I G,yf6,eW,D,o]
def za1{w':World}{B:Nat}{e:TypeId}{s n:Nat}(h:w.ownsRow B e s v n xs)(o:Ok w w'):w'.ownsRow B e s v n xs:=zb4 h λb d=>Below.block o b (h.lt b d).2
def Ok.grown{w0 w':World}{own:Option Nat}(h:Ok w0 w)(o:w.grownBy w' own)(D:∀b,own=some b->w0.heap.size<=b):Ok w0 w':=by have d:Below w0.heap.size w0 w:=h;have:=d.size;refine⟨o.os.trans d.os,o.tape.trans d.tape,o.output.trans d.output,aH d.size o.size,λk G=>?_⟩;exact(o.block k oM (λe=>by have:=D k e.symm;omega)).trans (d.block k G)
def yq9{w4:World}{W:Value}{N0 m k:Nat}{R:List UInt8}{o:Obj}(hs:s.size<=1000000)(h:Ok w wr)(I:wr.ownsRow w.heap.size 164 4 v N0 xs)(L:TR s xs N0 m)(D:Ok wr w1)(X:m<s.size)(Z:s.toList.length=s.size)(G:¬0<EN (s.toList.drop m))(Y:BC (s.toList.drop m)=.inr (k,R,n))(K:b.toList=R)
  (J:((w1.alloc (.cells #[nI (k:Nat),.string b,nI n,nI (m:Nat)] 164)).alloc o).grownBy w4 v.ownBlock) (O:w4.ownsRow w.heap.size 164 4 W (N0+1) (xs++[nI (k:Nat),.string b,nI n,nI (m:Nat)])) :
  w1.heap.size<w4.heap.size/\w4.cell? (aD w1.heap.size 1)=some (.string b)/\IntKind.i64.wrap ((m:Int)+(b.size:Int))=((m+b.size:Nat):Int)/\(TI w s w4 W (N0+1) (m+b.size)/\m+b.size<=s.size/\1<=b.size):=by
 have d:=L.more Z X G Y K;have h1:=J.size;have h2:((w1.alloc (.cells #[nI (k:Nat),.string b,nI n,nI (m:Nat)] 164)).alloc o).heap.size=w1.heap.size+1+1:=by rw[show ∀(z:World) (o:Obj),(z.alloc o).heap.size=z.heap.size+1 from λz o=>iG _,show ∀(z:World) (o:Obj),(z.alloc o).heap.size=z.heap.size+1 from λz o=>iG _]
 refine⟨by omega,yq8 J (λb G=>lL_ (I.lt b G).2 D.le),zd3 oM oM,⟨?_,_,O,d.1⟩,by omega,d.2.1⟩;exact(((h.step D).alloc _).alloc _).grown J (λb G=>(I.lt b G).1)
def zx8(s:ByteArray)(w:World) :
  Calls Tryz.prog 43 #[.string s] w λe w'=>we4 w s.toList e w'/\Ok w w':=by
 have Z:=hid (zc2 s);by_cases d:8192<s.size
 ·have b1:(8192:Int)<(s.size:Int):=by omega
  have HX:Hi (DY s.toList=.inl (21,8192)):=by unfold Hi DY;rw[Z.o,aG d]
  clear d;go_enter Tryz.func43,Tryz.ntmps43;go_wp2_with fail;(try simp only[Exit.inBlock,Exit.then]);refine bodyPost_ret (results_tmp3 rfl _ _ _) rfl ?_;refine⟨?_,Ok.refl w⟩;unfold we4;rw[HX.o];rfl
 have hs:s.size<=1000000:=by omega
 have b1:¬(8192:Int)<(s.size:Int):=by omega
 have HX:Hi (DY s.toList=wa9 (s.size+1) s.toList 0):=by unfold Hi DY;rw[Z.o,aC d]
 have HS:=hid (Nat.le_of_not_lt d);clear d;go_enter Tryz.func43,Tryz.ntmps43;go_wp2_with fail;go_loopw [5,6] (λo x wr=>∃(j N0:Nat) (oo:Option Addr) (oc:Nat),j<=s.size/\o=.slice oo N0 oc/\x=nI (j:Nat)/\Hi (TI w s wr (.slice oo N0 oc) N0 j)) (λ_ x _=>((s.size:Int)-intOf x).toNat)
 case atStart=>exact⟨0,0,none,0,dQ _,rfl,rfl,Ok.refl w,[],World.ownsRow_nil _ _ _ _,[],s.size+1,rfl,rfl,aK _,by omega,by rw[HX.o];exact(yq7 _).symm⟩
 obtain⟨j,N0,oo,oc,hj,rfl,rfl,W⟩:=hrel;by_cases I:j<s.size
 ·have a2:(j:Int)<(s.size:Int):=za5 I
  obtain⟨b0,d⟩:=qq (EN (s.toList.drop j));have K:b0<=s.size-j:=by rw[d];refine aH (yA3 _) ?_;rw[cW,Z.o];exact aK _
  have a1:Hi (b0=EN (s.toList.drop j)/\b0<=s.size-j):=⟨d,K⟩;have G:=hid I;obtain⟨m,L⟩:=qq (j+b0);have HM:Hi (m=j+b0):=L;by_cases D:0<b0
  ·have a5:(j:Int)<(m:Int):=by omega
   have R:Hi (TI w s wr (.slice oo N0 oc) N0 m):=TI.blank W.o Z.o I (by rw[<-d];exact D) (by rw[L,d]);have O:m<=s.size:=by omega
   clear d K L D
   go_wp2_with (go_at_call 70;refine mq (zq0 s j G.o hs _) λw1 J=>?_;replace J:=J.symm;subst J;rw[<-a1.o.1,<-HM.o])
   go_roundw
   case rel=>exact⟨m,N0,oo,oc,O,rfl,rfl,R⟩
   case measure=>simp only[intOf];omega
  have a5:m=j:=by omega
  have a4:Hi (¬0<EN (s.toList.drop j)):=by rw[<-d];exact D
  subst a5;clear d K L D
  cases d:BC (s.toList.drop m) with
  | inl D =>
   have K:((D:Int) != 0)=true:=by have:=zG7 d;rw[dO];omega
   have R:=hid d;have HE:=hid (TI.bad W.o Z.o I a4.o d);clear d
   go_wp2_with (first
    |(go_at_call 70;refine mq (zq0 s m G.o hs _) λw1 J=>?_;replace J:=J.symm;subst J;rw[<-a1.o.1,<-HM.o])
    |(go_at_call 71;refine(zG5 s m G.o hs _).mono ?_;rintro e w1 ⟨Y,L⟩;unfold CQ at Y;rw[R.o]at Y;unfold wt5 at Y;subst Y;have O:=hid L;clear L)
    | fail)
   (try simp only[Exit.inBlock,Exit.then]);refine bodyPost_ret (results_tmp3 rfl _ _ _) rfl ?_;refine⟨?_,?_⟩
   ·unfold we4;rw[HE.o];rfl
   exact(W.o.1.step O.o).alloc _
  | inr p =>
   obtain⟨k,tx,n⟩:=p;have R:=hid d;clear d;obtain⟨xs,D,K⟩:=W.o.2;have a6:=hid D;have a7:=hid K;have b7:N0<=8192:=by obtain⟨_,_,_,_,h,_⟩:=K;have:=HS.o;omega
   have X:Hi (N0+1<=maxLen/\(N0+1)*40<=140737488355328):=by unfold Hi maxLen;omega
   have c3:Hi (∀b,(Value.slice oo N0 oc).ownBlock=some b->w.heap.size<=b/\b<wr.heap.size):=λb hb=>D.lt b hb;clear D K b7;obtain⟨i0,b3,b6,b2,b4⟩:=zg6 wn7
   go_wp2_with (first
    |(go_at_call 70;refine mq (zq0 s m G.o hs _) λw1 J=>?_;replace J:=J.symm;subst J;rw[<-a1.o.1,<-HM.o])
    |(go_at_call 71;refine(zG5 s m G.o hs _).mono ?_;rintro e w1 ⟨Y,L⟩;unfold CQ at Y;rw[R.o]at Y;obtain⟨b,hb,rfl⟩:=Y;have O:=hid L;have b5:=hid hb;clear L hb)
    |(at_builtin;refine wpList_append_lies _ rfl _ _ 122 rfl w.heap.size 164 i0 _ 4 40 Tryz.underlying122 b3 b6 b2 b4 rfl (by decide) _ N0 xs (by rfl) (World.ownsRow.alloc (World.ownsRow.alloc (za1 a6.o O.o) _) _) ⟨w1.heap.size+1,0,none⟩ 1 1 [nI (k:Nat),.string b,nI n,nI (m:Nat)] (by rfl) rfl (by intro j u hj;exact zA4 (heap_at _ _ _ (by simp)) j u hj) (by simp[Value.oneCell']) (by decide) X.o.1 X.o.2 (by have:=W.o.1.le;have:=O.o.le;simp;omega) (w1.heap.size+2) (by simp) ?_;intro gg b8 w4 K D a3 c0;have a8:=hid K;have a9:=hid D;obtain⟨b9,c1,c2,hf⟩:=yq9 hs W.o.1 a6.o a7.o O.o G.o Z.o a4.o R.o b5.o a9.o a8.o;have HF:=hid hf;clear K D a3 hf)
    | fail)
   go_roundw
   case rel=>exact⟨m+b.size,N0+1,_,_,HF.o.2.1,rfl,rfl,HF.o.1⟩
   case measure=>have:=HF.o.2;simp only[intOf];omega
 have a2:¬(j:Int)<(s.size:Int):=zb2 I;have HE:=hid (TI.done W.o Z.o I);go_wp2_with fail;(try simp only[Exit.inBlock,Exit.then]);refine bodyPost_ret (results_tmp3 rfl _ _ _) rfl ?_;refine⟨?_,W.o.1⟩;unfold we4;obtain⟨ts,xs,D,d,G⟩:=HE.o;rw[D];exact⟨_,xs,rfl,d,G⟩
end Go.Proofs.YthoegkcpmgalbaaGreatDoor
