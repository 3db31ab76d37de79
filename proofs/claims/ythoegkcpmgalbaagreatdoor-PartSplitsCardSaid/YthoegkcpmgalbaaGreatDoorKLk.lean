import Derived.Test.YthoegkcpmgalbaaGreatDoorKLf
set_option maxHeartbeats 8000000
set_option linter.all false
set_option maxRecDepth 100000
namespace Go.Proofs.YthoegkcpmgalbaaGreatDoor
open Go.RowKit
variable{a k rb:Nat}{bad:Int}{w w':World}
structure RP where
 tv:Value
 B:Nat
 xs:List Value
 ts:List Tk
 en:Nat
structure RI(P:RP)(rb:Nat)(w:World)(a:Nat)(bad:Int):Prop where
 row:w.heap[rb]?=some (.cells #[P.tv,nI (a:Nat),nI (P.en:Nat),nI bad] 127 (0,0))
 own:w.ownsRow P.B 164 4 P.tv P.ts.length P.xs
 tk:wb1 P.xs P.ts
 ne:∀b,P.tv.ownBlock=some b->b≠rb
 le:a<=P.ts.length
 lim:P.ts.length<=1000000/\P.en<=1000000
def Fr(rb:Nat)(w w':World):Prop:=w.grownBy w' (some rb)
def Fr.of(h:Ok w w'):Fr rb w w':=⟨h.os,h.tape,h.output,h.size,λk d _=>h.block k d⟩
def Fr.refl(rb:Nat)(w:World):Fr rb w w:=Fr.of (Ok.refl w)
def Fr.trans{w1 w2:World}(h:Fr rb w w1)(d:Fr rb w1 w2):Fr rb w w2 :=
 ⟨d.os.trans h.os,d.tape.trans h.tape,d.output.trans h.output,aH h.size d.size,λk D o=>(d.block k (lL_ D h.size) o).trans (h.block k D o)⟩
def Fr.set(h:Fr rb w w')(o:Nat)(u:Value):Fr rb w (w'.setCell (aD rb o) u):=by exact h.trans ⟨rfl,rfl,rfl,by simp[World.setCell],λk D d=>Below.heap_setCell _ _ _ _ (λe=>d (cA some e))⟩
def RI.lt{P:RP}(h:RI P rb w a bad):rb<w.heap.size:=za2 h.row
def RI.to{P:RP}{o:Nat}{d:Int}(h:RI P rb w a bad)(I:Fr rb w w')(J:w'.heap[rb]?=some (.cells #[P.tv,nI (o:Nat),nI (P.en:Nat),nI d] 127 (0,0)))(G:o<=P.ts.length):RI P rb w' o d :=
 ⟨J,zb4 h.own (λb D=>I.block b (h.own.lt b D).2 (λe=>h.ne b D (aI e))),h.tk,h.ne,G,h.lim⟩
def RI.ok{P:RP}(h:RI P rb w a bad)(d:Ok w w'):RI P rb w' a bad:=h.to (Fr.of d) (d.row' h.row) h.le
def wb1.get:∀{ts:List Tk} {d:List Value} {i:Nat} {x:Tk},wb1 d ts->ts[i]?=some x->∃b:ByteArray,b.toList=x.2.1/\d[i*4]?=some (nI (x.1:Nat))/\d[i*4+1]?=some (.string b)/\d[i*4+2]?=some (nI x.2.2.1)/\d[i*4+3]?=some (nI (x.2.2.2:Nat))
 | [],d,i,x,h,hx=>by simp at hx
 |(k,t,n,p)::r,d,0,x,h,hx=>by obtain⟨b,ys,D,o,G⟩:=h;simp at hx;subst hx;subst o;exact⟨b,D,rfl,rfl,rfl,rfl⟩
 |(k,t,n,p)::r,d,i+1,x,h,hx=>by obtain⟨b,ys,D,o,G⟩:=h;rw[bF]at hx;obtain⟨I,q⟩:=wb1.get G hx;subst o;refine⟨I,q.1,?_⟩;rw[show(i+1)*4=i*4+1+1+1+1 by omega,show i*4+1+1+1+1+1=i*4+1+1+1+1+1 by omega];exact q.2
def RI.tok{P:RP}(h:RI P rb w a bad)(G:a<P.ts.length):∃(g c:Nat) (x:Tk) (b:ByteArray),P.tv=.slice (sA g 0) P.ts.length c/\g<w.heap.size/\P.ts[a]?=some x/\b.toList=x.2.1/\w.cell? ⟨g,a*4,none⟩=some (nI (x.1:Nat))/\w.cell? ⟨g,a*4+1,none⟩=some (.string b)/\w.cell? ⟨g,a*4+2,none⟩=some (nI x.2.2.1)/\w.cell? ⟨g,a*4+3,none⟩=some (nI (x.2.2.2:Nat)):=by obtain⟨g,c,e,_,O⟩:=h.own.form oM;obtain⟨b,K,W,L,X,R⟩:=h.tk.get (gG_ G);have d:=h.own;rw[e]at d;have I:=d.cells (g:=g) rfl _ _ W;have J:=d.cells (g:=g) rfl _ _ L;have D:=d.cells (g:=g) rfl _ _ X;have o:=d.cells (g:=g) rfl _ _ R;rw[zb7,aL]at I J D o;exact⟨g,c,P.ts[a],b,e,O,gG_ G,K,I,J,D,o⟩
def plS(P:RP)(a:Nat):Nat:=match P.ts[a]? with | some x=>x.2.2.2 | none=>P.en
def zb8(P:RP)(rb:Nat)(w:World)(a:Nat)(bad:Int)(h:RI P rb w a bad) :
  Calls Tryz.prog 72 #[pA rb 0] w λe w'=>e=.returned (nI (plS P a:Nat))/\Ok w w':=by
 obtain⟨L,Z,R,f3,X,z1,z2,z3⟩:=za6 h.row;have O:=h.lt;have H:=hid h;have K:(P.ts.length:Nat)<=1000000:=h.lim.1;by_cases G:a<P.ts.length
 ·obtain⟨g,c,x,b,d,hg,J,hb,c0,c1,Y,W⟩:=h.tok G
  rw[d]at L;have D:(a:Int)<(P.ts.length:Int):=za5 G;have I:Hi (plS P a=x.2.2.2):=by unfold Hi plS;rw[J]
  clear d h J;go_enter Tryz.func72,Tryz.ntmps72;go_wp2_with fail;go_quiet (fail);go_wp2_with fail;go_quiet (fail);go_wp2_with fail;go_ret;exact⟨by rw[I.o];rfl,((Ok.refl w).draws _).draws _⟩
 obtain⟨J,cap,d⟩:=za0 h.own;rw[d]at L;have D:¬(a:Int)<(P.ts.length:Int):=zb2 G;have I:Hi (plS P a=P.en):=by unfold Hi plS;rw[aS oM]
 clear d h;go_enter Tryz.func72,Tryz.ntmps72;go_wp2_with fail;go_quiet (fail);go_wp2_with fail;go_ret;exact⟨by rw[I.o];rfl,(Ok.refl w).draws _⟩
def isS(P:RP)(a:Nat)(bad:Int)(t:List UInt8):Bool:=decide (bad<0)&&match P.ts[a]? with | none=>false | some x => !(x.1==1)&&x.2.1==t
def zb9{P:RP}{t:List UInt8}(h:isS P a bad t=true):bad<0/\a<P.ts.length:=by
 unfold isS at h;rw[bM,bV]at h;refine⟨h.1,?_⟩;by_cases d:a<P.ts.length
 ·exact d
 rw[aS oM]at h;cases h.2
def zb1(P:RP)(rb:Nat)(w:World)(a:Nat)(bad:Int)(s:ByteArray)(h:RI P rb w a bad) :
  Calls Tryz.prog 44 #[pA rb 0,.string s] w λe w'=>e=.returned (.bool (isS P a bad s.toList))/\Ok w w':=by
 obtain⟨f0,f1,f2,f3,z0,z1,z2,z3⟩:=za6 h.row;have a2:=h.lt;have a1:(P.ts.length:Nat)<=1000000:=h.lim.1;obtain⟨D,d⟩:=qq (isS P a bad s.toList);rw[<-d];by_cases L:bad<0
 ·have I:decide (bad<0)=true:=dT_ L
  by_cases O:a<P.ts.length
  ·obtain⟨g,c,x,b,G,hg,J,K,c0,c1,c2,c3⟩:=h.tok O
   rw[G]at f0;have Y:(a:Int)<(P.ts.length:Int):=za5 O;have X:decide (a<P.ts.length)=true:=dT_ O;have R:Hi (D=(!(x.1==1)&&b.toList==s.toList)):=by unfold Hi;rw[d];unfold isS;rw[J,I,K];rfl
   clear G h J d K;obtain⟨Z,tx,nm,pl⟩:=x;simp only at c0 c1 c2 c3 R
   cases K:(Z==1) with
   | true =>
    have W:((Z:Int) != 1)=false:=by rw[bZ]at K;subst K;rfl
    have J:Hi (D=false):=by unfold Hi;rw[R.o,K];rfl
    go_enter Tryz.func44,Tryz.ntmps44;go_wp2_with fail;go_quiet (fail);go_wp2_with fail;go_ret;exact⟨by rw[J.o];rfl,(Ok.refl w).draws _⟩
   | false =>
    have W:((Z:Int) != 1)=true:=by rw[aF]at K;rw[dO];omega
    cases he:(b.toList==s.toList) with
    | true =>
     have J:Hi (D=true):=by unfold Hi;rw[R.o,K,he];rfl
     go_enter Tryz.func44,Tryz.ntmps44;go_wp2_with fail;go_quiet (fail);go_wp2_with fail;go_ret;exact⟨by rw[J.o];rfl,(Ok.refl w).draws _⟩
    | false =>
     have J:Hi (D=false):=by unfold Hi;rw[R.o,K,he];rfl
     go_enter Tryz.func44,Tryz.ntmps44;go_wp2_with fail;go_quiet (fail);go_wp2_with fail;go_ret;exact⟨by rw[J.o];rfl,(Ok.refl w).draws _⟩
  obtain⟨K,cap,G⟩:=za0 h.own;rw[G]at f0;have Y:¬(a:Int)<(P.ts.length:Int):=zb2 O;have X:decide (a<P.ts.length)=false:=dF_ O;have J:Hi (D=false):=by unfold Hi isS at *;rw[d,aS oM,cL]
  clear G h d;go_enter Tryz.func44,Tryz.ntmps44;go_wp2_with fail;go_quiet (fail);go_wp2_with fail;go_ret;exact⟨by rw[J.o];rfl,(Ok.refl w).draws _⟩
 have I:decide (bad<0)=false:=dF_ L;have J:Hi (D=false):=by unfold Hi isS at *;rw[d,I,dY]
 clear h d;go_enter Tryz.func44,Tryz.ntmps44;go_wp2_with fail;go_quiet (fail);go_wp2_with fail;go_ret;exact⟨by rw[J.o];rfl,(Ok.refl w).draws _⟩
def isC{P:RP}{rb:Nat}{w W:World}{a:Nat}{bad:Int}{s:ByteArray}{r:Bool}{K:Ending->World->Prop}(h:RI P rb w a bad)(k:Ok W w)(o:isS P a bad s.data.toList=r)(g:∀w',Hi (RI P rb w' a bad)->Hi (Ok W w')->K (.returned (.bool r)) w'):Calls Tryz.prog 44 #[pA rb 0,.string s] w K:=by
 refine(zb1 P rb w a bad s h).mono ?_
 rintro e w' ⟨rfl,d⟩
 rw[ByteArray.toList_eq,o]
 exact g _ (h.ok d) (k.step d)
def plC{P:RP}{rb:Nat}{w:World}{a:Nat}{bad:Int}{K:Ending->World->Prop}(h:RI P rb w a bad)(g:∀w',Hi (RI P rb w' a bad)->Hi (Ok w w')->K (.returned (nI (plS P a:Nat))) w'):Calls Tryz.prog 72 #[pA rb 0] w K:=by
 refine(zb8 P rb w a bad h).mono ?_
 rintro e w' ⟨rfl,d⟩
 exact g _ (h.ok d) d
def AF(P:RP)(a:Nat)(bad:Int):Int:=if bad<0 then (plS P a:Nat) else bad
def ze7(P:RP)(a:Nat)(bad:Int):0<=AF P a bad:=by unfold AF;split<;>omega
def RI.setAt{P:RP}(h:RI P rb w a bad)(d:Nat)(o:d<=P.ts.length):RI P rb (w.setCell (aD rb 1) (nI (d:Nat))) d bad :=
 h.to ((Fr.refl rb w).set 1 _) (by have:=heap_setCell_same w rb 1 _ _ (nI (d:Nat)) h.row;simpa using this) o
def RI.setBad{P:RP}(h:RI P rb w a bad)(d:Int):RI P rb (w.setCell (aD rb 3) (nI d)) a d :=
 h.to ((Fr.refl rb w).set 3 _) (by have:=heap_setCell_same w rb 3 _ _ (nI d) h.row;simpa using this) h.le
def zn1(P:RP)(rb:Nat)(w:World)(a:Nat)(bad:Int)(h:RI P rb w a bad) :
  Calls Tryz.prog 76 #[pA rb 0] w λe w'=>e=.returned (.tuple #[])/\RI P rb w' a (AF P a bad)/\Fr rb w w':=by
 obtain⟨f0,Y,R,X,W,z1,z2,z3⟩:=za6 h.row;have Z:=h.lt;have H:=hid h;obtain⟨I,d⟩:=qq (AF P a bad);rw[<-d];have O:Hi (I=AF P a bad):=d;clear h d;by_cases d:bad<0
 ·have G:decide (bad<0)=true:=dT_ d
  have K:Hi (I=(plS P a:Nat)):=by unfold Hi;rw[O.o];unfold AF;rw[aG d]
  go_enter Tryz.func76,Tryz.ntmps76
  go_wp2_with (go_at_call 72;refine mq (zb8 P rb _ a bad H.o) λw1 D=>?_;have J:=hid (H.o.ok D);have HK:=hid D;rw[<-K.o];obtain⟨e0,e1,e2,e3,y0,y1,y2,y3⟩:=za6 J.o.row;have L:=J.o.lt;clear D f0 Y R X W z1 z2 z3)
  go_end0
  exact⟨rfl,J.o.setBad I,(Fr.of HK.o).set 3 _⟩
 have G:decide (bad<0)=false:=dF_ d;have K:Hi (I=bad):=by unfold Hi;rw[O.o];unfold AF;rw[aC d]
 go_enter Tryz.func76,Tryz.ntmps76;go_wp2_with fail
 go_end0
 exact⟨rfl,by rw[K.o];exact H.o,Fr.refl _ _⟩
def zc5(P:RP)(rb:Nat)(w:World)(a:Nat)(bad:Int)(s:ByteArray)(h:RI P rb w a bad) :
  Calls Tryz.prog 74 #[pA rb 0,.string s] w λe w'=>e=.returned (.tuple #[])/\RI P rb w' (if isS P a bad s.toList then a+1 else a) (if isS P a bad s.toList then bad else AF P a bad)/\Fr rb w w':=by
 have H:=hid h;have R:=h;clear h
 cases J:isS P a bad s.toList with
 | true =>
  have K:=hid J;clear J;have D:=(zb9 K.o).2;have I:IntKind.i64.wrap ((a:Int)+1)=((a+1:Nat):Int):=zb3 (oH R.lim);clear R;go_enter Tryz.func74,Tryz.ntmps74
  go_wp2_with (go_at_call 44;refine mq (zb1 P rb _ a bad s H.o) λX d=>?_;rw[K.o];have G:=hid (H.o.ok d);have W:=hid d;obtain⟨f0,f1,O,Z,Y,z1,z2,z3⟩:=za6 G.o.row;have L:=G.o.lt;clear d)
  go_end0
  exact⟨rfl,G.o.setAt (a+1) D,(Fr.of W.o).set 1 _⟩
 | false =>
  have K:=hid J;clear J R;go_enter Tryz.func74,Tryz.ntmps74
  go_wp2_with (first|(go_at_call 44;refine mq (zb1 P rb _ a bad s H.o) λX d=>?_;rw[K.o];have G:=hid (H.o.ok d);have W:=hid d;clear d) | (go_at_call 76;refine mq (zn1 P rb _ a bad G.o) λY ⟨I,D⟩=>?_;have O:=hid I;have L:=hid D;clear I D)|fail)
  go_end0
  exact⟨rfl,O.o,(Fr.of W.o).trans L.o⟩
def kwb:List ByteArray:=[⟨#[118,97,114]⟩,⟨#[97,114,114,97,121]⟩,⟨#[105,110,112,117,116]⟩,⟨#[97,115,115,101,114,116]⟩,⟨#[115,107,105,112]⟩,⟨#[105,102]⟩,⟨#[101,108,115,101]⟩,⟨#[119,104,105,108,101]⟩,⟨#[116,114,117,101]⟩,⟨#[102,97,108,115,101]⟩]
def kwF(k:Nat)(l:List UInt8):Bool:=(kwb.drop k).any λb=>b.toList==l
def yr0(h:k<10)(l:List UInt8):kwF k l=((kwb[k]'h).toList==l||kwF (k+1) l):=by unfold kwF;rw[aP (show k<kwb.length from h),bO];rfl
def yr1{g:Nat}(h:k<10)(d:w.heap[g]?=some (.cells (kwb.map Value.string).toArray 9 (0,0))):w.cell? (aD g k)=some (.string (kwb[k]'h)):=by
 have o:(kwb.map Value.string).toArray[k]?=some (.string (kwb[k]'h)):=by rw[fQ,aX,aJ (show k<kwb.length from h)];rfl
 exact(cell_of_row _ _ k _ _ _ d).trans o
def zL3(s:ByteArray)(w:World) :
  Calls Tryz.prog 147 #[.string s] w λe w'=>e=.returned (.bool (kwF 0 s.toList))/\Ok w w':=by
 go_enter Tryz.func147,Tryz.ntmps147;go_wp2_with fail;obtain⟨W,D⟩:=qq (w.alloc (.cells (kwb.map Value.string).toArray 9));have d:W=w.alloc (.cells #[.string ⟨#[118,97,114]⟩,.string ⟨#[97,114,114,97,121]⟩,.string ⟨#[105,110,112,117,116]⟩,.string ⟨#[97,115,115,101,114,116]⟩,.string ⟨#[115,107,105,112]⟩,.string ⟨#[105,102]⟩,.string ⟨#[101,108,115,101]⟩,.string ⟨#[119,104,105,108,101]⟩,.string ⟨#[116,114,117,101]⟩,.string ⟨#[102,97,108,115,101]⟩] 9):=D;rw[<-d];have I:Hi (W.heap[w.heap.size]?=some (.cells (kwb.map Value.string).toArray 9 (0,0))/\Ok w W):=by unfold Hi;rw[D];exact⟨za3 _ _,(Ok.refl w).alloc _⟩
 clear D d;go_loopw [4] (λx wr=>∃(k:Nat),k<=10/\x=nI (k:Nat)/\Hi (kwF 0 s.toList=kwF k s.toList)/\wr=W) (λx _=>((10:Int)-intOf x).toNat)
 case atStart=>exact⟨0,zL_ _,rfl,rfl,rfl⟩
 obtain⟨k,Y,rfl,J,rfl⟩:=hrel;by_cases d:k<10
 ·have O:(k:Int)<10:=oM
  have R:IntKind.i64.wrap ((k:Int)+1)=((k+1:Nat):Int):=zb3 oM;have D:=yr1 d I.o.1;have X:=za2 I.o.1;obtain⟨b,G⟩:=qq (kwb[k]'d);rw[<-G]at D;have L:Hi (kwF k s.toList=(b.toList==s.toList||kwF (k+1) s.toList)):=by rw[G];exact yr0 d _
  clear G
  cases K:(b.toList==s.toList) with
  | true =>
   have G:Hi (kwF 0 s.toList=true):=by unfold Hi;rw[J.o,L.o,K];rfl
   go_wp2_with fail;go_ret;exact⟨by rw[G.o];rfl,I.o.2⟩
  | false =>
   have G:Hi (kwF 0 s.toList=kwF (k+1) s.toList):=by unfold Hi;rw[J.o,L.o,K];rfl
   go_wp2_with fail;go_roundw
   case rel=>exact⟨k+1,d,rfl,G,trivial⟩
   case measure=>simp only[intOf];omega
 have D:k=10:=oM;subst D;have G:Hi (kwF 0 s.toList=false):=by unfold Hi;rw[J.o];rfl
 go_wp2_with fail;go_ret;exact⟨by rw[G.o];rfl,I.o.2⟩
def CN(P:RP)(a:Nat)(bad:Int):Bool:=decide (bad<0)&&match P.ts[a]? with | none=>false | some x=>x.1==0 && !kwF 0 x.2.1
def zo9{P:RP}(h:CN P a bad=true):bad<0/\a<P.ts.length:=by
 unfold CN at h;rw[bM,bV]at h;refine⟨h.1,?_⟩;by_cases d:a<P.ts.length
 ·exact d
 rw[aS oM]at h;cases h.2
def zi4(P:RP)(rb:Nat)(w:World)(a:Nat)(bad:Int)(h:RI P rb w a bad) :
  Calls Tryz.prog 113 #[pA rb 0] w λe w'=>e=.returned (.bool (CN P a bad))/\Ok w w':=by
 obtain⟨Y,f1,f2,f3,z0,z1,z2,z3⟩:=za6 h.row;have K:=h.lt;have a4:(P.ts.length:Nat)<=1000000:=h.lim.1;obtain⟨I,d⟩:=qq (CN P a bad);rw[<-d];by_cases R:bad<0
 ·have G:decide (bad<0)=true:=dT_ R
  by_cases W:a<P.ts.length
  ·obtain⟨g,c,x,b,D,hg,J,L,c0,c1,c2,c3⟩:=h.tok W
   rw[D]at Y;have a3:(a:Int)<(P.ts.length:Int):=za5 W;have a2:decide (a<P.ts.length)=true:=dT_ W;have HX:Hi (I=(x.1==0 && !kwF 0 b.toList)):=by unfold Hi;rw[d];unfold CN;rw[J,G,L];rfl
   clear D h J d L;obtain⟨X,tx,nm,pl⟩:=x;simp only at c0 c1 c2 c3 HX
   cases Z:(X==0) with
   | false =>
    have a1:((X:Int)==0)=false:=by rw[aF]at Z ⊢;omega
    have L:Hi (I=false):=by unfold Hi;rw[HX.o,Z];rfl
    go_enter Tryz.func113,Tryz.ntmps113;go_wp2_with fail;go_quiet (fail);go_wp2_with fail;go_ret;exact⟨by rw[L.o];rfl,(Ok.refl w).draws _⟩
   | true =>
    have a1:((X:Int)==0)=true:=by rw[bZ]at Z ⊢;omega
    have L:Hi (I = !kwF 0 b.toList):=by unfold Hi;rw[HX.o,Z];rfl
    go_enter Tryz.func113,Tryz.ntmps113;go_wp2_with fail
    go_region_held3 (λw'=>w'.cell? (aD rb 0)=some (.slice (sA g 0) P.ts.length c)/\w'.cell? (aD rb 1)=some (nI (a:Nat))/\w'.cell? (aD rb 3)=some (nI bad)/\w'.cell? ⟨g,a*4,none⟩=some (nI (X:Nat))/\w'.cell? ⟨g,a*4+1,none⟩=some (.string b))
     (first|(exact⟨Y,f1,f3,c0,c1⟩) | (exact⟨d0,d1,d3,k0,k1⟩) | go_keep)
     (first
     |(go_at_call 147;refine(Calls.mono (zL3 b _) ?_);rintro e w1 ⟨rfl,J⟩;have O:Hi (Ok w w1):=(by first | exact J | exact Ok.step ((Ok.refl w).draws _) J | exact Ok.step (Below.drew (Ok.refl w)) J);have d0:=O.o.cell (p:=⟨rb,0,none⟩) K Y;have d1:=O.o.cell (p:=⟨rb,1,none⟩) K f1;have d3:=O.o.cell (p:=⟨rb,3,none⟩) K f3;have k0:=O.o.cell (p:=⟨g,a*4,none⟩) hg c0;have k1:=O.o.cell (p:=⟨g,a*4+1,none⟩) hg c1;clear J)
     | fail)
    go_wp2_with fail;go_ret;exact⟨by rw[L.o];rfl,O.o⟩
  obtain⟨J,cap,D⟩:=za0 h.own;rw[D]at Y;have a3:¬(a:Int)<(P.ts.length:Int):=zb2 W;have a2:decide (a<P.ts.length)=false:=dF_ W;have L:Hi (I=false):=by unfold Hi CN at *;rw[d,aS oM,cL]
  clear D h d;go_enter Tryz.func113,Tryz.ntmps113;go_wp2_with fail;go_quiet (fail);go_wp2_with fail;go_ret;exact⟨by rw[L.o];rfl,(Ok.refl w).draws _⟩
 have G:decide (bad<0)=false:=dF_ R;have L:Hi (I=false):=by unfold Hi CN at *;rw[d,G,dY]
 clear h d;go_enter Tryz.func113,Tryz.ntmps113;go_wp2_with fail;go_quiet (fail);go_wp2_with fail;go_ret;exact⟨by rw[L.o];rfl,(Ok.refl w).draws _⟩
def RI.tokAt{P:RP}{i:Nat}(h:RI P rb w a bad)(G:i<P.ts.length):∃(g c:Nat) (x:Tk) (b:ByteArray),P.tv=.slice (sA g 0) P.ts.length c/\g<w.heap.size/\P.ts[i]?=some x/\b.toList=x.2.1/\w.cell? ⟨g,i*4,none⟩=some (nI (x.1:Nat))/\w.cell? ⟨g,i*4+1,none⟩=some (.string b)/\w.cell? ⟨g,i*4+2,none⟩=some (nI x.2.2.1)/\w.cell? ⟨g,i*4+3,none⟩=some (nI (x.2.2.2:Nat)):=by obtain⟨g,c,e,_,O⟩:=h.own.form oM;obtain⟨b,K,W,L,X,R⟩:=h.tk.get (gG_ G);have d:=h.own;rw[e]at d;have I:=d.cells (g:=g) rfl _ _ W;have J:=d.cells (g:=g) rfl _ _ L;have D:=d.cells (g:=g) rfl _ _ X;have o:=d.cells (g:=g) rfl _ _ R;rw[zb7,aL]at I J D o;exact⟨g,c,P.ts[i],b,e,O,gG_ G,K,I,J,D,o⟩
def txS(P:RP)(a:Nat):List UInt8:=match P.ts[a]? with | some x=>x.2.1 | none=>[]
def zi5(P:RP)(rb:Nat)(w:World)(a:Nat)(bad:Int)(h:RI P rb w a bad) :
  Calls Tryz.prog 73 #[pA rb 0] w λe w'=>∃s:ByteArray,e=.returned (.string s)/\s.toList=(if CN P a bad then txS P a else [])/\RI P rb w' (if CN P a bad then a+1 else a) (if CN P a bad then bad else AF P a bad)/\Fr rb w w':=by
 have H:=hid h
 cases K:CN P a bad with
 | true =>
  have L:=hid K;clear K;have G:=(zo9 L.o).2;have a5:IntKind.i64.wrap ((a:Int)+1)=((a+1:Nat):Int):=zb3 (oH h.lim);have a4:IntKind.i64.wrap (((a+1:Nat):Int)-1)=(a:Int):=zd3 oM (oH h.lim);have a2:(P.ts.length:Nat)<=1000000:=h.lim.1;clear h;have a1:(a:Int)<(P.ts.length:Int):=za5 G;go_enter Tryz.func73,Tryz.ntmps73
  go_wp2_with (go_at_call 113;refine mq (zi4 P rb _ a bad H.o) λZ d=>?_;rw[L.o];have J:=hid (H.o.ok d);have Y:=hid d;obtain⟨R,f1,f2,f3,z0,z1,z2,z3⟩:=za6 J.o.row;have O:=J.o.lt;clear d)
  obtain⟨W,X⟩:=qq (Z.setCell ⟨rb,1,none⟩ (nI ((a+1:Nat):Int)));have D:Hi (RI P rb W (a+1) bad/\Fr rb w W):=by unfold Hi;rw[X];exact⟨J.o.setAt (a+1) G,(Fr.of Y.o).set 1 _⟩
  have HT:=hid (RI.tokAt D.o.1 G);have I:Z.setCell (aD rb 1) (nI ((a:Int)+1))=W:=by rw[X];rfl
  rw[I];clear R f1 f2 f3 z0 z1 z2 z3 O X I;obtain⟨R,f1,f2,f3,z0,z1,z2,z3⟩:=za6 D.o.1.row;obtain⟨g,c,x,b,I,hg,O,X,c0,c1,c2,c3⟩:=HT.o;rw[I]at R;have a3:=D.o.1.lt;have HB:Hi (b.toList=txS P a):=by unfold Hi txS;rw[O];exact X
  clear O X I;go_quiet (fail);go_wp2_with fail;go_ret;exact⟨b,rfl,HB.o,(D.o.1.ok ((Ok.refl _).draws _)),D.o.2.trans (Fr.of ((Ok.refl _).draws _))⟩
 | false =>
  have L:=hid K;clear K h;go_enter Tryz.func73,Tryz.ntmps73
  go_wp2_with (first|(go_at_call 113;refine mq (zi4 P rb _ a bad H.o) λZ d=>?_;rw[L.o];have J:=hid (H.o.ok d);have Y:=hid d;clear d) | (go_at_call 76;refine mq (zn1 P rb _ a bad J.o) λR ⟨G,D⟩=>?_;have O:=hid G;have I:=hid D;clear G D)|fail)
  go_ret;exact⟨⟨#[]⟩,rfl,(by rw[ByteArray.toList_eq]),O.o,(Fr.of Y.o).trans I.o⟩
structure Nd where
 depth:Int
 kind:Int
 name:ByteArray
 num:Int
 op:Int
 pos:Int
def ndV(n:Nd):List Value:=[nI n.depth,nI n.kind,.string n.name,nI n.num,nI n.op,nI n.pos]
def ndL(ns:List Nd):List Value:=(ns.map ndV).flatten
def zA9(n:Nd)(ns:List Nd):ndL (n::ns)=ndV n++ndL ns:=by simp[ndL]
def zL4(a b:List Nd):ndL (a++b)=ndL a++ndL b:=by simp[ndL]
def yA4(n:Nd):ndL [n]=ndV n:=by simp[ndL]
def zu2:∀(ns:List Nd),(ndL ns).length=ns.length*6
 | []=>rfl
 | n::ns=>by rw[zA9,aA,zu2 ns];simp[ndV];omega
def zg3:∀{ns:List Nd} {i:Nat} {n:Nd},ns[i]?=some n->(ndL ns)[i*6]?=some (nI n.depth)/\(ndL ns)[i*6+1]?=some (nI n.kind)/\(ndL ns)[i*6+2]?=some (.string n.name)/\(ndL ns)[i*6+3]?=some (nI n.num)/\(ndL ns)[i*6+4]?=some (nI n.op)/\(ndL ns)[i*6+5]?=some (nI n.pos)
 | [],i,n,h=>by simp at h
 | x::xs,0,n,h=>by simp at h;subst h;rw[zA9];exact⟨rfl,rfl,rfl,rfl,rfl,rfl⟩
 | x::xs,i+1,n,h=>by rw[bF]at h;have:=zg3 h;rw[zA9,show(i+1)*6=i*6+1+1+1+1+1+1 by omega];exact this
def zu3(ns:List Nd):∀u∈ndL ns,u.oneCell'=true:=by
 intro u d;simp only[ndL,fR,bX]at d;obtain⟨l,⟨n,_,rfl⟩,d⟩:=d;simp[ndV]at d
 rcases d with rfl | rfl | rfl | rfl | rfl | rfl<;>rfl
def wn8:(Tryz.prog.info? 53).map (λi=>(i.zero,i.size,i.bytes))=some (some (.agg #[nI 0,nI 0,.string ⟨#[]⟩,nI 0,nI 0,nI 0]),6,56):=by kernel_rfl
def NL(w:World)(B:Nat)(v:Value)(ns:List Nd):Prop:=w.ownsRow B 53 6 v ns.length (ndL ns)
def DK(n:Nd):Nd:={ n with depth:=IntKind.i64.wrap (n.depth+1) }
def zV6{g:Nat}{a b c d e f:Value}{t:TypeId}(h:w.heap[g]?=some (.cells #[a,b,c,d,e,f] t (0,0))) :
  w.cell? (aD g 0)=some a/\w.cell? (aD g 1)=some b/\w.cell? (aD g 2)=some c/\w.cell? (aD g 3)=some d/\w.cell? (aD g 4)=some e/\w.cell? (aD g 5)=some f:=by
 refine⟨?_,?_,?_,?_,?_,?_⟩
 ·exact(cell_of_row _ _ 0 _ _ _ h).trans sI
 ·exact(cell_of_row _ _ 1 _ _ _ h).trans sI
 ·exact(cell_of_row _ _ 2 _ _ _ h).trans sI
 ·exact(cell_of_row _ _ 3 _ _ _ h).trans sI
 ·exact(cell_of_row _ _ 4 _ _ _ h).trans sI
 exact(cell_of_row _ _ 5 _ _ _ h).trans sI
def DI(w:World)(ns:List Nd)(wr:World)(v:Value)(k:Nat):Prop:=Ok w wr/\wr.ownsRow w.heap.size 53 6 v k (ndL ((ns.take k).map DK))
def DI.more{wr w4:World}{ns:List Nd}{v D:Value}{n:Nd}{o J:Obj}(h:DI w ns wr v k)(d:ns[k]?=some n)(I:((wr.alloc o).alloc J).grownBy w4 v.ownBlock)(K:w4.ownsRow w.heap.size 53 6 D (k+1) (ndL ((ns.take k).map DK)++ndV (DK n))):DI w ns w4 D (k+1):=by refine⟨((h.1.alloc _).alloc _).grown I (λb G=>(h.2.lt b G).1),?_⟩;obtain⟨L,e⟩:=aE.1 d;rw[dH,d,fH,dB,zL4,List.map_singleton,yA4];exact K
def zV7(w:World)(B:Nat)(v:Value)(ns:List Nd)(h:NL w B v ns)(hl:ns.length<=1000000) :
  Calls Tryz.prog 114 #[v] w λe w'=>∃v',e=.returned v'/\NL w' w.heap.size v' (ns.map DK)/\Ok w w':=by
 obtain⟨ao,cap,rfl⟩:=za0 h;have H:=hid h;clear h;obtain⟨i0,a3,a6,a1,a4⟩:=zg6 wn8;go_enter Tryz.func114,Tryz.ntmps114;go_wp2_with fail;go_loopw [3,4] (λo x wr=>∃(k:Nat) (W:Option Addr) (R:Nat),k<=ns.length/\o=.slice W k R/\x=nI (k:Nat)/\Hi (DI w ns wr (.slice W k R) k)) (λ_ x _=>((ns.length:Int)-intOf x).toNat)
 case atStart=>exact⟨0,none,0,zL_ _,rfl,rfl,Ok.refl w,World.ownsRow_nil _ _ _ _⟩
 obtain⟨k,W,R,hk,rfl,rfl,J⟩:=hrel;by_cases G:k<ns.length
 ·have O:(k:Int)<(ns.length:Int):=za5 G
  have b0:IntKind.i64.wrap ((k:Int)+1)=((k+1:Nat):Int):=zb3 oM;obtain⟨n,D⟩:∃n,ns[k]?=some n:=⟨ns[k],gG_ G⟩
  obtain⟨g,a5⟩:∃g,ao=some ⟨g,0,none⟩:=by
   obtain⟨g,c,e,_⟩:=H.o.form oM
   injection e with e1
   exact⟨g,e1⟩
  subst a5;have a2:=(H.o.lt g rfl).2;have d:wr.ownsRow B 53 6 (.slice (sA g 0) ns.length cap) ns.length (ndL ns):=za1 H.o J.o.1;obtain⟨L,X,q2,Y,Z,K⟩:=zg3 D;have c0:=d.cells (g:=g) rfl _ _ L;have c1:=d.cells (g:=g) rfl _ _ X;have c2:=d.cells (g:=g) rfl _ _ q2;have c3:=d.cells (g:=g) rfl _ _ Y;have c4:=d.cells (g:=g) rfl _ _ Z;have c5:=d.cells (g:=g) rfl _ _ K;rw[zb7,aL]at c0 c1 c2 c3 c4 c5;have a9:g<wr.heap.size:=lL_ a2 J.o.1.le;have HN:=hid D;have I:Hi (k+1<=maxLen/\(k+1)*56<=140737488355328):=by unfold Hi maxLen;omega
  clear L X q2 Y Z K d D;obtain⟨dp,kd,nm,nu,op,ps⟩:=n;simp only at c0 c1 c2 c3 c4 c5;obtain⟨X,d⟩:=qq (IntKind.i64.wrap (dp+1));have a7:IntKind.i64.wrap (dp+1)=X:=d.symm;have Z:Hi (X=IntKind.i64.wrap (dp+1)):=d;clear d
  go_wp2_with (first
   |(at_builtin;refine wpList_append_lies _ rfl _ _ 25 rfl w.heap.size 53 i0 _ 6 56 Tryz.underlying25 a3 a6 a1 a4 rfl (by decide) _ k (ndL ((ns.take k).map DK)) (by rfl) (World.ownsRow.alloc (World.ownsRow.alloc J.o.2 _) _) ⟨wr.heap.size+1,0,none⟩ 1 1 [nI X,nI kd,.string nm,nI nu,nI op,nI ps] (by rfl) rfl (by intro j u hj;exact zA4 (heap_at _ _ _ (by simp)) j u hj) (by simp[Value.oneCell']) (by decide) I.o.1 I.o.2 (by have:=J.o.1.le;simp;omega) (wr.heap.size+2) (by simp) ?_;intro gg K w4 D d L a8;have Y:Hi (DI w ns w4 (.slice (sA gg 0) (k+1) K) (k+1)):=DI.more J.o HN.o d (by simp only[DK,ndV];rw[<-Z.o];exact D);clear D d L)
   | fail)
  go_roundw
  case rel=>exact⟨k+1,_,_,G,rfl,rfl,Y⟩
  case measure=>exact we3 G
 have O:¬(k:Int)<(ns.length:Int):=zb2 G;have d:k=ns.length:=oM;subst d
 have D:Hi (NL wr w.heap.size (.slice W ns.length R) (ns.map DK)):=by have:=J.o.2;rw[cH]at this;unfold Hi NL;rw[aM];exact this
 go_wp2_with fail;go_ret;exact⟨_,rfl,D.o,J.o.1⟩
end Go.Proofs.YthoegkcpmgalbaaGreatDoor
