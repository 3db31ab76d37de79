import Derived.Test.YtpongdpnbclchaaGreatDoorKLf
set_option maxHeartbeats 8000000
set_option linter.all false
set_option maxRecDepth 100000
namespace Go.Proofs.YtpongdpnbclchaaGreatDoor
variable{a k rb:Nat}{bad:Int}{w w':World}
section
open Go.RowKit
structure RP where
 tv:Value
 B:Nat
 xs:List Value
 ts:List Tk
 en:Nat
structure RI(P:RP)(rb:Nat)(w:World)(a:Nat)(bad:Int):Prop where
 row:w.heap[rb]?=some (.cells #[P.tv,nI (a:Nat),nI (P.en:Nat),nI bad] 105 (0,0))
 own:w.ownsRow P.B 148 4 P.tv P.ts.length P.xs
 tk:wb2 P.xs P.ts
 ne:∀b,P.tv.ownBlock=some b->b≠rb
 le:a<=P.ts.length
 lim:P.ts.length<=1000000/\P.en<=1000000
def Fr(rb:Nat)(w w':World):Prop:=w.grownBy w' (some rb)
theorem Fr.of(h:Ok w w'):Fr rb w w':=⟨h.os,h.tape,h.output,h.size,λk hk _=>h.block k hk⟩
theorem Fr.refl(rb:Nat)(w:World):Fr rb w w:=Fr.of (Ok.refl w)
theorem Fr.trans{w1 w2:World}(h:Fr rb w w1)(h2:Fr rb w1 w2):Fr rb w w2 :=
 ⟨h2.os.trans h.os,h2.tape.trans h.tape,h2.output.trans h.output,Nat.le_trans h.size h2.size,λk hk hn=>(h2.block k (lL_ hk h.size) hn).trans (h.block k hk hn)⟩
theorem Fr.set(h:Fr rb w w')(o:Nat)(u:Value):Fr rb w (w'.setCell (aD rb o) u):=by exact h.trans ⟨rfl,rfl,rfl,by simp[World.setCell],λk hk hn=>Below.heap_setCell _ _ _ _ (λe=>hn (congrArg some e))⟩
theorem RI.lt{P:RP}(h:RI P rb w a bad):rb<w.heap.size:=za2 h.row
theorem RI.to{P:RP}{a':Nat}{bad':Int}(h:RI P rb w a bad)(hf:Fr rb w w')(hr:w'.heap[rb]?=some (.cells #[P.tv,nI (a':Nat),nI (P.en:Nat),nI bad'] 105 (0,0)))(hl:a'<=P.ts.length):RI P rb w' a' bad' :=
 ⟨hr,zb4 h.own (λb hb=>hf.block b (h.own.lt b hb).2 (λe=>h.ne b hb (Option.some.inj e))),h.tk,h.ne,hl,h.lim⟩
theorem RI.ok{P:RP}(h:RI P rb w a bad)(hf:Ok w w'):RI P rb w' a bad:=h.to (Fr.of hf) (hf.row' h.row) h.le
theorem wb2.get:∀{ts:List Tk} {xs:List Value} {i:Nat} {x:Tk},wb2 xs ts->ts[i]?=some x->∃b:ByteArray,b.toList=x.2.1/\xs[i*4]?=some (nI (x.1:Nat))/\xs[i*4+1]?=some (.string b)/\xs[i*4+2]?=some (nI x.2.2.1)/\xs[i*4+3]?=some (nI (x.2.2.2:Nat))
 | [],xs,i,x,h,hx=>by simp at hx
 |(k,t,n,p)::r,xs,0,x,h,hx=>by obtain⟨b,ys,h1,h2,h3⟩:=h;simp at hx;subst hx;subst h2;exact⟨b,h1,rfl,rfl,rfl,rfl⟩
 |(k,t,n,p)::r,xs,i+1,x,h,hx=>by obtain⟨b,ys,h1,h2,h3⟩:=h;rw[List.getElem?_cons_succ]at hx;obtain⟨b',q⟩:=wb2.get h3 hx;subst h2;refine⟨b',q.1,?_⟩;rw[show(i+1)*4=i*4+1+1+1+1 by omega,show i*4+1+1+1+1+1=i*4+1+1+1+1+1 by omega];exact q.2
theorem RI.tok{P:RP}(h:RI P rb w a bad)(ha:a<P.ts.length):∃(g c:Nat) (x:Tk) (b:ByteArray),P.tv=.slice (sA g 0) P.ts.length c/\g<w.heap.size/\P.ts[a]?=some x/\b.toList=x.2.1/\w.cell? ⟨g,a*4,none⟩=some (nI (x.1:Nat))/\w.cell? ⟨g,a*4+1,none⟩=some (.string b)/\w.cell? ⟨g,a*4+2,none⟩=some (nI x.2.2.1)/\w.cell? ⟨g,a*4+3,none⟩=some (nI (x.2.2.2:Nat)):=by obtain⟨g,c,e,_,hg⟩:=h.own.form oM;obtain⟨b,hb,q0,q1,q2,q3⟩:=h.tk.get (gG_ ha);have hown:=h.own;rw[e]at hown;have c0:=hown.cells (g:=g) rfl _ _ q0;have c1:=hown.cells (g:=g) rfl _ _ q1;have c2:=hown.cells (g:=g) rfl _ _ q2;have c3:=hown.cells (g:=g) rfl _ _ q3;rw[zb7,Nat.zero_add]at c0 c1 c2 c3;exact⟨g,c,P.ts[a],b,e,hg,gG_ ha,hb,c0,c1,c2,c3⟩
def plS(P:RP)(a:Nat):Nat:=match P.ts[a]? with | some x=>x.2.2.2 | none=>P.en
theorem zb8(P:RP)(rb:Nat)(w:World)(a:Nat)(bad:Int)(h:RI P rb w a bad) :
  Calls Tryz.prog 69 #[pA rb 0] w λe w'=>e=.returned (nI (plS P a:Nat))/\Ok w w':=by
 obtain⟨f0,f1,f2,f3,z0,z1,z2,z3⟩:=za6 h.row;have hlt:=h.lt;have H:=hid h;have hlen:(P.ts.length:Nat)<=1000000:=h.lim.1;by_cases ha:a<P.ts.length
 ·obtain⟨g,c,x,b,htv,hg,hx,hb,c0,c1,c2,c3⟩:=h.tok ha
  rw[htv]at f0;have ha':(a:Int)<(P.ts.length:Int):=za5 ha;have HX:Hi (plS P a=x.2.2.2):=by unfold Hi plS;rw[hx]
  clear htv h hx;go_enter Tryz.func69,Tryz.ntmps69;go_wp2_with fail;go_quiet (fail);go_wp2_with fail;go_quiet (fail);go_wp2_with fail;go_ret;exact⟨by rw[HX.o];rfl,((Ok.refl w).draws _).draws _⟩
 obtain⟨ao,cap,htv⟩:=za0 h.own;rw[htv]at f0;have ha':¬(a:Int)<(P.ts.length:Int):=zb2 ha;have HX:Hi (plS P a=P.en):=by unfold Hi plS;rw[List.getElem?_eq_none (by omega)]
 clear htv h;go_enter Tryz.func69,Tryz.ntmps69;go_wp2_with fail;go_quiet (fail);go_wp2_with fail;go_ret;exact⟨by rw[HX.o];rfl,(Ok.refl w).draws _⟩
def isS(P:RP)(a:Nat)(bad:Int)(t:List UInt8):Bool:=decide (bad<0)&&match P.ts[a]? with | none=>false | some x => !(x.1==1)&&x.2.1==t
theorem zb9{P:RP}{t:List UInt8}(h:isS P a bad t=true):bad<0/\a<P.ts.length:=by
 unfold isS at h;rw[Bool.and_eq_true,decide_eq_true_eq]at h;refine⟨h.1,?_⟩;by_cases ha:a<P.ts.length
 ·exact ha
 rw[List.getElem?_eq_none (by omega)]at h;cases h.2
theorem zb1(P:RP)(rb:Nat)(w:World)(a:Nat)(bad:Int)(s:ByteArray)(h:RI P rb w a bad) :
  Calls Tryz.prog 39 #[pA rb 0,.string s] w λe w'=>e=.returned (.bool (isS P a bad s.toList))/\Ok w w':=by
 obtain⟨f0,f1,f2,f3,z0,z1,z2,z3⟩:=za6 h.row;have hlt:=h.lt;have hlen:(P.ts.length:Nat)<=1000000:=h.lim.1;obtain⟨ans,hans⟩:=qq (isS P a bad s.toList);rw[<-hans];by_cases hb0:bad<0
 ·have hb0':decide (bad<0)=true:=dT_ hb0
  by_cases ha:a<P.ts.length
  ·obtain⟨g,c,x,b,htv,hg,hx,hb,c0,c1,c2,c3⟩:=h.tok ha
   rw[htv]at f0;have ha':(a:Int)<(P.ts.length:Int):=za5 ha;have ha2:decide (a<P.ts.length)=true:=dT_ ha;have HX:Hi (ans=(!(x.1==1)&&b.toList==s.toList)):=by unfold Hi;rw[hans];unfold isS;rw[hx,hb0',hb];rfl
   clear htv h hx hans hb;obtain⟨kd,tx,nm,pl⟩:=x;simp only at c0 c1 c2 c3 HX
   cases hk:(kd==1) with
   | true =>
    have hk':((kd:Int) != 1)=false:=by rw[beq_iff_eq]at hk;subst hk;rfl
    have HA:Hi (ans=false):=by unfold Hi;rw[HX.o,hk];rfl
    go_enter Tryz.func39,Tryz.ntmps39;go_wp2_with fail;go_quiet (fail);go_wp2_with fail;go_ret;exact⟨by rw[HA.o];rfl,(Ok.refl w).draws _⟩
   | false =>
    have hk':((kd:Int) != 1)=true:=by rw[beq_eq_false_iff_ne]at hk;rw[bne_iff_ne];omega
    cases he:(b.toList==s.toList) with
    | true =>
     have HA:Hi (ans=true):=by unfold Hi;rw[HX.o,hk,he];rfl
     go_enter Tryz.func39,Tryz.ntmps39;go_wp2_with fail;go_quiet (fail);go_wp2_with fail;go_ret;exact⟨by rw[HA.o];rfl,(Ok.refl w).draws _⟩
    | false =>
     have HA:Hi (ans=false):=by unfold Hi;rw[HX.o,hk,he];rfl
     go_enter Tryz.func39,Tryz.ntmps39;go_wp2_with fail;go_quiet (fail);go_wp2_with fail;go_ret;exact⟨by rw[HA.o];rfl,(Ok.refl w).draws _⟩
  obtain⟨ao,cap,htv⟩:=za0 h.own;rw[htv]at f0;have ha':¬(a:Int)<(P.ts.length:Int):=zb2 ha;have ha2:decide (a<P.ts.length)=false:=dF_ ha;have HA:Hi (ans=false):=by unfold Hi isS at *;rw[hans,List.getElem?_eq_none (by omega),Bool.and_false]
  clear htv h hans;go_enter Tryz.func39,Tryz.ntmps39;go_wp2_with fail;go_quiet (fail);go_wp2_with fail;go_ret;exact⟨by rw[HA.o];rfl,(Ok.refl w).draws _⟩
 have hb0':decide (bad<0)=false:=dF_ hb0;have HA:Hi (ans=false):=by unfold Hi isS at *;rw[hans,hb0',Bool.false_and]
 clear h hans;go_enter Tryz.func39,Tryz.ntmps39;go_wp2_with fail;go_quiet (fail);go_wp2_with fail;go_ret;exact⟨by rw[HA.o];rfl,(Ok.refl w).draws _⟩
theorem isC{P:RP}{rb:Nat}{w W:World}{a:Nat}{bad:Int}{s:ByteArray}{r:Bool}{K:Ending->World->Prop}(h:RI P rb w a bad)(k:Ok W w)(hs:isS P a bad s.data.toList=r)(g:∀w',Hi (RI P rb w' a bad)->Hi (Ok W w')->K (.returned (.bool r)) w'):Calls Tryz.prog 39 #[pA rb 0,.string s] w K:=by
 refine(zb1 P rb w a bad s h).mono ?_
 rintro e w' ⟨rfl,hok⟩
 rw[ByteArray.toList_eq,hs]
 exact g _ (h.ok hok) (k.step hok)
theorem plC{P:RP}{rb:Nat}{w:World}{a:Nat}{bad:Int}{K:Ending->World->Prop}(h:RI P rb w a bad)(g:∀w',Hi (RI P rb w' a bad)->Hi (Ok w w')->K (.returned (nI (plS P a:Nat))) w'):Calls Tryz.prog 69 #[pA rb 0] w K:=by
 refine(zb8 P rb w a bad h).mono ?_
 rintro e w' ⟨rfl,hok⟩
 exact g _ (h.ok hok) hok
end
section
open Go.RowKit
def AI(P:RP)(a:Nat)(bad:Int):Int:=if bad<0 then (plS P a:Nat) else bad
theorem ze7(P:RP)(a:Nat)(bad:Int):0<=AI P a bad:=by unfold AI;split<;>omega
theorem RI.setAt{P:RP}(h:RI P rb w a bad)(a':Nat)(hl:a'<=P.ts.length):RI P rb (w.setCell (aD rb 1) (nI (a':Nat))) a' bad :=
 h.to ((Fr.refl rb w).set 1 _) (by have:=heap_setCell_same w rb 1 _ _ (nI (a':Nat)) h.row;simpa using this) hl
theorem RI.setBad{P:RP}(h:RI P rb w a bad)(bad':Int):RI P rb (w.setCell (aD rb 3) (nI bad')) a bad' :=
 h.to ((Fr.refl rb w).set 3 _) (by have:=heap_setCell_same w rb 3 _ _ (nI bad') h.row;simpa using this) h.le
theorem zn1(P:RP)(rb:Nat)(w:World)(a:Nat)(bad:Int)(h:RI P rb w a bad) :
  Calls Tryz.prog 73 #[pA rb 0] w λe w'=>e=.returned (.tuple #[])/\RI P rb w' a (AI P a bad)/\Fr rb w w':=by
 obtain⟨f0,f1,f2,f3,z0,z1,z2,z3⟩:=za6 h.row;have hlt:=h.lt;have H:=hid h;obtain⟨fl,hfl⟩:=qq (AI P a bad);rw[<-hfl];have HF:Hi (fl=AI P a bad):=hfl;clear h hfl;by_cases hb0:bad<0
 ·have hb0':decide (bad<0)=true:=dT_ hb0
  have HA:Hi (fl=(plS P a:Nat)):=by unfold Hi;rw[HF.o];unfold AI;rw[if_pos hb0]
  go_enter Tryz.func73,Tryz.ntmps73
  go_wp2_with (go_at_call 69;refine mq (zb8 P rb _ a bad H.o) λw1 hok=>?_;have HR:=hid (H.o.ok hok);have HK:=hid hok;rw[<-HA.o];obtain⟨e0,e1,e2,e3,y0,y1,y2,y3⟩:=za6 HR.o.row;have hlt1:=HR.o.lt;clear hok f0 f1 f2 f3 z0 z1 z2 z3)
  go_end0
  exact⟨rfl,HR.o.setBad fl,(Fr.of HK.o).set 3 _⟩
 have hb0':decide (bad<0)=false:=dF_ hb0;have HA:Hi (fl=bad):=by unfold Hi;rw[HF.o];unfold AI;rw[if_neg hb0]
 go_enter Tryz.func73,Tryz.ntmps73;go_wp2_with fail
 go_end0
 exact⟨rfl,by rw[HA.o];exact H.o,Fr.refl _ _⟩
theorem zc5(P:RP)(rb:Nat)(w:World)(a:Nat)(bad:Int)(s:ByteArray)(h:RI P rb w a bad) :
  Calls Tryz.prog 71 #[pA rb 0,.string s] w λe w'=>e=.returned (.tuple #[])/\RI P rb w' (if isS P a bad s.toList then a+1 else a) (if isS P a bad s.toList then bad else AI P a bad)/\Fr rb w w':=by
 have H:=hid h;have HH:=h;clear h
 cases hi:isS P a bad s.toList with
 | true =>
  have HI:=hid hi;clear hi;have hal:=(zb9 HI.o).2;have haw:IntKind.i64.wrap ((a:Int)+1)=((a+1:Nat):Int):=zb3 (by have:=HH.lim;omega);clear HH;go_enter Tryz.func71,Tryz.ntmps71
  go_wp2_with (go_at_call 39;refine mq (zb1 P rb _ a bad s H.o) λw1 hok=>?_;rw[HI.o];have HR:=hid (H.o.ok hok);have HK:=hid hok;obtain⟨f0,f1,f2,f3,z0,z1,z2,z3⟩:=za6 HR.o.row;have hlt:=HR.o.lt;clear hok)
  go_end0
  exact⟨rfl,HR.o.setAt (a+1) hal,(Fr.of HK.o).set 1 _⟩
 | false =>
  have HI:=hid hi;clear hi HH;go_enter Tryz.func71,Tryz.ntmps71
  go_wp2_with (first|(go_at_call 39;refine mq (zb1 P rb _ a bad s H.o) λw1 hok=>?_;rw[HI.o];have HR:=hid (H.o.ok hok);have HK:=hid hok;clear hok) | (go_at_call 73;refine mq (zn1 P rb _ a bad HR.o) λw2 ⟨hr2,hf2⟩=>?_;have HR2:=hid hr2;have HF2:=hid hf2;clear hr2 hf2)|fail)
  go_end0
  exact⟨rfl,HR2.o,(Fr.of HK.o).trans HF2.o⟩
end
section
open Go.RowKit
def kwb:List ByteArray:=[⟨#[118,97,114]⟩,⟨#[97,114,114,97,121]⟩,⟨#[105,110,112,117,116]⟩,⟨#[97,115,115,101,114,116]⟩,⟨#[115,107,105,112]⟩,⟨#[105,102]⟩,⟨#[101,108,115,101]⟩,⟨#[119,104,105,108,101]⟩,⟨#[116,114,117,101]⟩,⟨#[102,97,108,115,101]⟩]
def kwF(k:Nat)(l:List UInt8):Bool:=(kwb.drop k).any λb=>b.toList==l
theorem yr0(h:k<10)(l:List UInt8):kwF k l=((kwb[k]'h).toList==l||kwF (k+1) l):=by unfold kwF;rw[List.drop_eq_getElem_cons (show k<kwb.length from h),List.any_cons];rfl
theorem yr1{g:Nat}(h:k<10)(hg:w.heap[g]?=some (.cells (kwb.map Value.string).toArray 9 (0,0))):w.cell? (aD g k)=some (.string (kwb[k]'h)):=by
 have hx:(kwb.map Value.string).toArray[k]?=some (.string (kwb[k]'h)):=by rw[List.getElem?_toArray,List.getElem?_map,List.getElem?_eq_getElem (show k<kwb.length from h)];rfl
 exact(cell_of_row _ _ k _ _ _ hg).trans hx
theorem zL3(s:ByteArray)(w:World) :
  Calls Tryz.prog 136 #[.string s] w λe w'=>e=.returned (.bool (kwF 0 s.toList))/\Ok w w':=by
 go_enter Tryz.func136,Tryz.ntmps136;go_wp2_with fail;obtain⟨W,hW⟩:=qq (w.alloc (.cells (kwb.map Value.string).toArray 9));have hW':W=w.alloc (.cells #[.string ⟨#[118,97,114]⟩,.string ⟨#[97,114,114,97,121]⟩,.string ⟨#[105,110,112,117,116]⟩,.string ⟨#[97,115,115,101,114,116]⟩,.string ⟨#[115,107,105,112]⟩,.string ⟨#[105,102]⟩,.string ⟨#[101,108,115,101]⟩,.string ⟨#[119,104,105,108,101]⟩,.string ⟨#[116,114,117,101]⟩,.string ⟨#[102,97,108,115,101]⟩] 9):=hW;rw[<-hW'];have HR:Hi (W.heap[w.heap.size]?=some (.cells (kwb.map Value.string).toArray 9 (0,0))/\Ok w W):=by unfold Hi;rw[hW];exact⟨za3 _ _,(Ok.refl w).alloc _⟩
 clear hW hW';go_loopw [4] (λx wr=>∃(k:Nat),k<=10/\x=nI (k:Nat)/\Hi (kwF 0 s.toList=kwF k s.toList)/\wr=W) (λx _=>((10:Int)-intOf x).toNat)
 case atStart=>exact⟨0,zL_ _,rfl,rfl,rfl⟩
 obtain⟨k,hk,rfl,HK,rfl⟩:=hrel;by_cases hkl:k<10
 ·have hkl':(k:Int)<10:=oM
  have hkw:IntKind.i64.wrap ((k:Int)+1)=((k+1:Nat):Int):=zb3 oM;have hcell:=yr1 hkl HR.o.1;have hlt:=za2 HR.o.1;obtain⟨b,hb⟩:=qq (kwb[k]'hkl);rw[<-hb]at hcell;have HB:Hi (kwF k s.toList=(b.toList==s.toList||kwF (k+1) s.toList)):=by rw[hb];exact yr0 hkl _
  clear hb
  cases he:(b.toList==s.toList) with
  | true =>
   have HA:Hi (kwF 0 s.toList=true):=by unfold Hi;rw[HK.o,HB.o,he];rfl
   go_wp2_with fail;go_ret;exact⟨by rw[HA.o];rfl,HR.o.2⟩
  | false =>
   have HA:Hi (kwF 0 s.toList=kwF (k+1) s.toList):=by unfold Hi;rw[HK.o,HB.o,he];rfl
   go_wp2_with fail;go_roundw
   case rel=>exact⟨k+1,hkl,rfl,HA,trivial⟩
   case measure=>simp only[intOf];omega
 have hk10:k=10:=oM;subst hk10;have HA:Hi (kwF 0 s.toList=false):=by unfold Hi;rw[HK.o];rfl
 go_wp2_with fail;go_ret;exact⟨by rw[HA.o];rfl,HR.o.2⟩
def CK(P:RP)(a:Nat)(bad:Int):Bool:=decide (bad<0)&&match P.ts[a]? with | none=>false | some x=>x.1==0 && !kwF 0 x.2.1
theorem zo9{P:RP}(h:CK P a bad=true):bad<0/\a<P.ts.length:=by
 unfold CK at h;rw[Bool.and_eq_true,decide_eq_true_eq]at h;refine⟨h.1,?_⟩;by_cases ha:a<P.ts.length
 ·exact ha
 rw[List.getElem?_eq_none (by omega)]at h;cases h.2
theorem zi4(P:RP)(rb:Nat)(w:World)(a:Nat)(bad:Int)(h:RI P rb w a bad) :
  Calls Tryz.prog 107 #[pA rb 0] w λe w'=>e=.returned (.bool (CK P a bad))/\Ok w w':=by
 obtain⟨f0,f1,f2,f3,z0,z1,z2,z3⟩:=za6 h.row;have hlt:=h.lt;have hlen:(P.ts.length:Nat)<=1000000:=h.lim.1;obtain⟨ans,hans⟩:=qq (CK P a bad);rw[<-hans];by_cases hb0:bad<0
 ·have hb0':decide (bad<0)=true:=dT_ hb0
  by_cases ha:a<P.ts.length
  ·obtain⟨g,c,x,b,htv,hg,hx,hb,c0,c1,c2,c3⟩:=h.tok ha
   rw[htv]at f0;have ha':(a:Int)<(P.ts.length:Int):=za5 ha;have ha2:decide (a<P.ts.length)=true:=dT_ ha;have HX:Hi (ans=(x.1==0 && !kwF 0 b.toList)):=by unfold Hi;rw[hans];unfold CK;rw[hx,hb0',hb];rfl
   clear htv h hx hans hb;obtain⟨kd,tx,nm,pl⟩:=x;simp only at c0 c1 c2 c3 HX
   cases hk:(kd==0) with
   | false =>
    have hk':((kd:Int)==0)=false:=by rw[beq_eq_false_iff_ne]at hk ⊢;omega
    have HA:Hi (ans=false):=by unfold Hi;rw[HX.o,hk];rfl
    go_enter Tryz.func107,Tryz.ntmps107;go_wp2_with fail;go_quiet (fail);go_wp2_with fail;go_ret;exact⟨by rw[HA.o];rfl,(Ok.refl w).draws _⟩
   | true =>
    have hk':((kd:Int)==0)=true:=by rw[beq_iff_eq]at hk ⊢;omega
    have HA:Hi (ans = !kwF 0 b.toList):=by unfold Hi;rw[HX.o,hk];rfl
    go_enter Tryz.func107,Tryz.ntmps107;go_wp2_with fail
    go_region_held3 (λw'=>w'.cell? (aD rb 0)=some (.slice (sA g 0) P.ts.length c)/\w'.cell? (aD rb 1)=some (nI (a:Nat))/\w'.cell? (aD rb 3)=some (nI bad)/\w'.cell? ⟨g,a*4,none⟩=some (nI (kd:Nat))/\w'.cell? ⟨g,a*4+1,none⟩=some (.string b))
     (first|(exact⟨f0,f1,f3,c0,c1⟩) | (exact⟨d0,d1,d3,k0,k1⟩) | go_keep)
     (first
     |(go_at_call 136;refine(Calls.mono (zL3 b _) ?_);rintro e w1 ⟨rfl,hok⟩;have HK:Hi (Ok w w1):=(by first | exact hok | exact Ok.step ((Ok.refl w).draws _) hok | exact Ok.step (Below.drew (Ok.refl w)) hok);have d0:=HK.o.cell (p:=⟨rb,0,none⟩) hlt f0;have d1:=HK.o.cell (p:=⟨rb,1,none⟩) hlt f1;have d3:=HK.o.cell (p:=⟨rb,3,none⟩) hlt f3;have k0:=HK.o.cell (p:=⟨g,a*4,none⟩) hg c0;have k1:=HK.o.cell (p:=⟨g,a*4+1,none⟩) hg c1;clear hok)
     | fail)
    go_wp2_with fail;go_ret;exact⟨by rw[HA.o];rfl,HK.o⟩
  obtain⟨ao,cap,htv⟩:=za0 h.own;rw[htv]at f0;have ha':¬(a:Int)<(P.ts.length:Int):=zb2 ha;have ha2:decide (a<P.ts.length)=false:=dF_ ha;have HA:Hi (ans=false):=by unfold Hi CK at *;rw[hans,List.getElem?_eq_none (by omega),Bool.and_false]
  clear htv h hans;go_enter Tryz.func107,Tryz.ntmps107;go_wp2_with fail;go_quiet (fail);go_wp2_with fail;go_ret;exact⟨by rw[HA.o];rfl,(Ok.refl w).draws _⟩
 have hb0':decide (bad<0)=false:=dF_ hb0;have HA:Hi (ans=false):=by unfold Hi CK at *;rw[hans,hb0',Bool.false_and]
 clear h hans;go_enter Tryz.func107,Tryz.ntmps107;go_wp2_with fail;go_quiet (fail);go_wp2_with fail;go_ret;exact⟨by rw[HA.o];rfl,(Ok.refl w).draws _⟩
end
section
open Go.RowKit
theorem RI.tokAt{P:RP}{i:Nat}(h:RI P rb w a bad)(hi:i<P.ts.length):∃(g c:Nat) (x:Tk) (b:ByteArray),P.tv=.slice (sA g 0) P.ts.length c/\g<w.heap.size/\P.ts[i]?=some x/\b.toList=x.2.1/\w.cell? ⟨g,i*4,none⟩=some (nI (x.1:Nat))/\w.cell? ⟨g,i*4+1,none⟩=some (.string b)/\w.cell? ⟨g,i*4+2,none⟩=some (nI x.2.2.1)/\w.cell? ⟨g,i*4+3,none⟩=some (nI (x.2.2.2:Nat)):=by obtain⟨g,c,e,_,hg⟩:=h.own.form oM;obtain⟨b,hb,q0,q1,q2,q3⟩:=h.tk.get (gG_ hi);have hown:=h.own;rw[e]at hown;have c0:=hown.cells (g:=g) rfl _ _ q0;have c1:=hown.cells (g:=g) rfl _ _ q1;have c2:=hown.cells (g:=g) rfl _ _ q2;have c3:=hown.cells (g:=g) rfl _ _ q3;rw[zb7,Nat.zero_add]at c0 c1 c2 c3;exact⟨g,c,P.ts[i],b,e,hg,gG_ hi,hb,c0,c1,c2,c3⟩
def txS(P:RP)(a:Nat):List UInt8:=match P.ts[a]? with | some x=>x.2.1 | none=>[]
theorem zi5(P:RP)(rb:Nat)(w:World)(a:Nat)(bad:Int)(h:RI P rb w a bad) :
  Calls Tryz.prog 70 #[pA rb 0] w λe w'=>∃s:ByteArray,e=.returned (.string s)/\s.toList=(if CK P a bad then txS P a else [])/\RI P rb w' (if CK P a bad then a+1 else a) (if CK P a bad then bad else AI P a bad)/\Fr rb w w':=by
 have H:=hid h
 cases hi:CK P a bad with
 | true =>
  have HI:=hid hi;clear hi;have hal:=(zo9 HI.o).2;have haw:IntKind.i64.wrap ((a:Int)+1)=((a+1:Nat):Int):=zb3 (by have:=h.lim;omega);have haw2:IntKind.i64.wrap (((a+1:Nat):Int)-1)=(a:Int):=zd3 oM (by have:=h.lim;omega);have hlen:(P.ts.length:Nat)<=1000000:=h.lim.1;clear h;have hal':(a:Int)<(P.ts.length:Int):=za5 hal;go_enter Tryz.func70,Tryz.ntmps70
  go_wp2_with (go_at_call 107;refine mq (zi4 P rb _ a bad H.o) λw1 hok=>?_;rw[HI.o];have HR:=hid (H.o.ok hok);have HK:=hid hok;obtain⟨f0,f1,f2,f3,z0,z1,z2,z3⟩:=za6 HR.o.row;have hlt:=HR.o.lt;clear hok)
  obtain⟨W,hW⟩:=qq (w1.setCell ⟨rb,1,none⟩ (nI ((a+1:Nat):Int)));have HRW:Hi (RI P rb W (a+1) bad/\Fr rb w W):=by unfold Hi;rw[hW];exact⟨HR.o.setAt (a+1) hal,(Fr.of HK.o).set 1 _⟩
  have HT:=hid (RI.tokAt HRW.o.1 hal);have hW':w1.setCell (aD rb 1) (nI ((a:Int)+1))=W:=by rw[hW];rfl
  rw[hW'];clear f0 f1 f2 f3 z0 z1 z2 z3 hlt hW hW';obtain⟨f0,f1,f2,f3,z0,z1,z2,z3⟩:=za6 HRW.o.1.row;obtain⟨g,c,x,b,htv,hg,hx,hb,c0,c1,c2,c3⟩:=HT.o;rw[htv]at f0;have hltW:=HRW.o.1.lt;have HB:Hi (b.toList=txS P a):=by unfold Hi txS;rw[hx];exact hb
  clear hx hb htv;go_quiet (fail);go_wp2_with fail;go_ret;exact⟨b,rfl,HB.o,(HRW.o.1.ok ((Ok.refl _).draws _)),HRW.o.2.trans (Fr.of ((Ok.refl _).draws _))⟩
 | false =>
  have HI:=hid hi;clear hi h;go_enter Tryz.func70,Tryz.ntmps70
  go_wp2_with (first|(go_at_call 107;refine mq (zi4 P rb _ a bad H.o) λw1 hok=>?_;rw[HI.o];have HR:=hid (H.o.ok hok);have HK:=hid hok;clear hok) | (go_at_call 73;refine mq (zn1 P rb _ a bad HR.o) λw2 ⟨hr2,hf2⟩=>?_;have HR2:=hid hr2;have HF2:=hid hf2;clear hr2 hf2)|fail)
  go_ret;exact⟨⟨#[]⟩,rfl,(by rw[ByteArray.toList_eq]),HR2.o,(Fr.of HK.o).trans HF2.o⟩
end
section
open Go.RowKit
structure Nd where
 depth:Int
 kind:Int
 name:ByteArray
 num:Int
 op:Int
 pos:Int
def ndV(n:Nd):List Value:=[nI n.depth,nI n.kind,.string n.name,nI n.num,nI n.op,nI n.pos]
def ndL(ns:List Nd):List Value:=(ns.map ndV).flatten
theorem zA9(n:Nd)(ns:List Nd):ndL (n::ns)=ndV n++ndL ns:=by simp[ndL]
theorem zL4(a b:List Nd):ndL (a++b)=ndL a++ndL b:=by simp[ndL]
theorem yA4(n:Nd):ndL [n]=ndV n:=by simp[ndL]
theorem zu2:∀(ns:List Nd),(ndL ns).length=ns.length*6
 | []=>rfl
 | n::ns=>by rw[zA9,List.length_append,zu2 ns];simp[ndV];omega
theorem zg3:∀{ns:List Nd} {i:Nat} {n:Nd},ns[i]?=some n->(ndL ns)[i*6]?=some (nI n.depth)/\(ndL ns)[i*6+1]?=some (nI n.kind)/\(ndL ns)[i*6+2]?=some (.string n.name)/\(ndL ns)[i*6+3]?=some (nI n.num)/\(ndL ns)[i*6+4]?=some (nI n.op)/\(ndL ns)[i*6+5]?=some (nI n.pos)
 | [],i,n,h=>by simp at h
 | x::xs,0,n,h=>by simp at h;subst h;rw[zA9];exact⟨rfl,rfl,rfl,rfl,rfl,rfl⟩
 | x::xs,i+1,n,h=>by rw[List.getElem?_cons_succ]at h;have:=zg3 h;rw[zA9,show(i+1)*6=i*6+1+1+1+1+1+1 by omega];exact this
theorem zu3(ns:List Nd):∀u∈ndL ns,u.oneCell'=true:=by
 intro u hu;simp only[ndL,List.mem_flatten,List.mem_map]at hu;obtain⟨l,⟨n,_,rfl⟩,hu⟩:=hu;simp[ndV]at hu
 rcases hu with rfl | rfl | rfl | rfl | rfl | rfl<;>rfl
theorem wm7:(Tryz.prog.info? 78).map (λi=>(i.zero,i.size,i.bytes))=some (some (.agg #[nI 0,nI 0,.string ⟨#[]⟩,nI 0,nI 0,nI 0]),6,56):=by kernel_rfl
def NL(w:World)(B:Nat)(v:Value)(ns:List Nd):Prop:=w.ownsRow B 78 6 v ns.length (ndL ns)
def DE(n:Nd):Nd:={ n with depth:=IntKind.i64.wrap (n.depth+1) }
theorem zV6{g:Nat}{a b c d e f:Value}{t:TypeId}(h:w.heap[g]?=some (.cells #[a,b,c,d,e,f] t (0,0))) :
  w.cell? (aD g 0)=some a/\w.cell? (aD g 1)=some b/\w.cell? (aD g 2)=some c/\w.cell? (aD g 3)=some d/\w.cell? (aD g 4)=some e/\w.cell? (aD g 5)=some f:=by
 refine⟨?_,?_,?_,?_,?_,?_⟩
 ·exact(cell_of_row _ _ 0 _ _ _ h).trans sI
 ·exact(cell_of_row _ _ 1 _ _ _ h).trans sI
 ·exact(cell_of_row _ _ 2 _ _ _ h).trans sI
 ·exact(cell_of_row _ _ 3 _ _ _ h).trans sI
 ·exact(cell_of_row _ _ 4 _ _ _ h).trans sI
 exact(cell_of_row _ _ 5 _ _ _ h).trans sI
def DI(w:World)(ns:List Nd)(wr:World)(v:Value)(k:Nat):Prop:=Ok w wr/\wr.ownsRow w.heap.size 78 6 v k (ndL ((ns.take k).map DE))
theorem DI.more{wr w4:World}{ns:List Nd}{v v':Value}{n:Nd}{o o':Obj}(h:DI w ns wr v k)(hn:ns[k]?=some n)(hg:((wr.alloc o).alloc o').grownBy w4 v.ownBlock)(ho:w4.ownsRow w.heap.size 78 6 v' (k+1) (ndL ((ns.take k).map DE)++ndV (DE n))):DI w ns w4 v' (k+1):=by refine⟨((h.1.alloc _).alloc _).grown hg (λb hb=>(h.2.lt b hb).1),?_⟩;obtain⟨hk,e⟩:=List.getElem?_eq_some_iff.1 hn;rw[List.take_add_one,hn,Option.toList_some,List.map_append,zL4,List.map_singleton,yA4];exact ho
theorem zV7(w:World)(B:Nat)(v:Value)(ns:List Nd)(h:NL w B v ns)(hl:ns.length<=1000000) :
  Calls Tryz.prog 108 #[v] w λe w'=>∃v',e=.returned v'/\NL w' w.heap.size v' (ns.map DE)/\Ok w w':=by
 obtain⟨ao,cap,rfl⟩:=za0 h;have H:=hid h;clear h;obtain⟨i0,hi0,hz0,hz1,hz2⟩:=zg6 wm7;go_enter Tryz.func108,Tryz.ntmps108;go_wp2_with fail;go_loopw [3,4] (λo x wr=>∃(k:Nat) (oo:Option Addr) (oc:Nat),k<=ns.length/\o=.slice oo k oc/\x=nI (k:Nat)/\Hi (DI w ns wr (.slice oo k oc) k)) (λ_ x _=>((ns.length:Int)-intOf x).toNat)
 case atStart=>exact⟨0,none,0,zL_ _,rfl,rfl,Ok.refl w,World.ownsRow_nil _ _ _ _⟩
 obtain⟨k,oo,oc,hk,rfl,rfl,HJ⟩:=hrel;by_cases hkl:k<ns.length
 ·have hkl':(k:Int)<(ns.length:Int):=za5 hkl
  have hkw:IntKind.i64.wrap ((k:Int)+1)=((k+1:Nat):Int):=zb3 oM;obtain⟨n,hn⟩:∃n,ns[k]?=some n:=⟨ns[k],gG_ hkl⟩
  obtain⟨g,hao⟩:∃g,ao=some ⟨g,0,none⟩:=by
   obtain⟨g,c,e,_⟩:=H.o.form oM
   injection e with e1
   exact⟨g,e1⟩
  subst hao;have hgl:=(H.o.lt g rfl).2;have hrow:wr.ownsRow B 78 6 (.slice (sA g 0) ns.length cap) ns.length (ndL ns):=za1 H.o HJ.o.1;obtain⟨q0,q1,q2,q3,q4,q5⟩:=zg3 hn;have c0:=hrow.cells (g:=g) rfl _ _ q0;have c1:=hrow.cells (g:=g) rfl _ _ q1;have c2:=hrow.cells (g:=g) rfl _ _ q2;have c3:=hrow.cells (g:=g) rfl _ _ q3;have c4:=hrow.cells (g:=g) rfl _ _ q4;have c5:=hrow.cells (g:=g) rfl _ _ q5;rw[zb7,Nat.zero_add]at c0 c1 c2 c3 c4 c5;have hgw:g<wr.heap.size:=lL_ hgl HJ.o.1.le;have HN:=hid hn;have HN63:Hi (k+1<=maxLen/\(k+1)*56<=140737488355328):=by unfold Hi maxLen;omega
  clear q0 q1 q2 q3 q4 q5 hrow hn;obtain⟨dp,kd,nm,nu,op,ps⟩:=n;simp only at c0 c1 c2 c3 c4 c5;obtain⟨dw,hdw⟩:=qq (IntKind.i64.wrap (dp+1));have hdw':IntKind.i64.wrap (dp+1)=dw:=hdw.symm;have HDW:Hi (dw=IntKind.i64.wrap (dp+1)):=hdw;clear hdw
  go_wp2_with (first
   |(at_builtin;refine wpList_append_lies _ rfl _ _ 29 rfl w.heap.size 78 i0 _ 6 56 Tryz.underlying29 hi0 hz0 hz1 hz2 rfl (by decide) _ k (ndL ((ns.take k).map DE)) (by rfl) (World.ownsRow.alloc (World.ownsRow.alloc HJ.o.2 _) _) ⟨wr.heap.size+1,0,none⟩ 1 1 [nI dw,nI kd,.string nm,nI nu,nI op,nI ps] (by rfl) rfl (by intro j u hj;exact zA4 (heap_at _ _ _ (by simp)) j u hj) (by simp[Value.oneCell']) (by decide) HN63.o.1 HN63.o.2 (by have:=HJ.o.1.le;simp;omega) (wr.heap.size+2) (by simp) ?_;intro gg capg w4 hown4 hgrow hat4 hlt4;have HO4:Hi (DI w ns w4 (.slice (sA gg 0) (k+1) capg) (k+1)):=DI.more HJ.o HN.o hgrow (by simp only[DE,ndV];rw[<-HDW.o];exact hown4);clear hown4 hgrow hat4)
   | fail)
  go_roundw
  case rel=>exact⟨k+1,_,_,hkl,rfl,rfl,HO4⟩
  case measure=>exact we3 hkl
 have hkl':¬(k:Int)<(ns.length:Int):=zb2 hkl;have hke:k=ns.length:=oM;subst hke
 have HE:Hi (NL wr w.heap.size (.slice oo ns.length oc) (ns.map DE)):=by have:=HJ.o.2;rw[List.take_length]at this;unfold Hi NL;rw[List.length_map];exact this
 go_wp2_with fail;go_ret;exact⟨_,rfl,HE.o,HJ.o.1⟩
end
end Go.Proofs.YtpongdpnbclchaaGreatDoor
