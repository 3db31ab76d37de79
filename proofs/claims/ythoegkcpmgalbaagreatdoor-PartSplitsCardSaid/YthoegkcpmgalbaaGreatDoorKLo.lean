import Derived.Test.YthoegkcpmgalbaaGreatDoorKLma
set_option maxHeartbeats 8000000
set_option linter.all false
set_option maxRecDepth 100000
namespace Go.Proofs.YthoegkcpmgalbaaGreatDoor
open Go.RowKit
variable{B a a' a1 a2 rb:Nat}{P:RP}{bad bad' bad1 bad2:Int}{u v:Value}{w w' w2 w3 wr:World}
structure Nd.Fit(n:Nd):Prop where
 name:n.name.size<=1000000
 lo : -9223372036854775808<=n.depth
 hi:n.depth<=9223372036854775807
 num:n.num<=9223372036854775807
def GT(P:RP):Prop:=P.ts.length<=8192/\∀x∈P.ts,x.2.1.length<=1000000/\x.2.2.1<=9223372036854775807
def zf0{n:Nd}(h:n.Fit):(DK n).Fit:=⟨h.name,by simp only[DK];rw[IntKind.wrap_i64];omega,by simp only[DK];rw[IntKind.wrap_i64];omega,h.num⟩
structure Got(S:List Nd->Nat->Int->Prop)(P:RP)(a:Nat)(bad:Int)(ns:List Nd)(a':Nat)(bad':Int):Prop where
 le:a<=a'
 on:bad<0->a<a'\/0<=bad'
 off:0<=bad->ns.length<=1/\a'=a/\bad'=bad
 len:bad<0->ns.length<=8*(a'-a)+(if bad'<0 then 0 else 8)
 fit:∀n∈ns,n.Fit
 sem:S ns a' bad'
def EPx(S:List Nd->Nat->Int->Prop)(P:RP)(rb:Nat)(w:World)(a:Nat)(bad:Int)(e:Ending)(w':World):Prop :=
 ∃v ns a' bad',e=.returned v/\NL w' w.heap.size v ns/\RI P rb w' a' bad'/\Fr rb w w'/\Got S P a bad ns a' bad'/\(0<=bad->ns=[])
def wf3(P:RP)(rb m:Nat):Prop:=∀w a bad,RI P rb w a bad->(P.ts.length-a)*10+3<=m->Calls Tryz.prog 115 #[pA rb 0] w (EPx (ExS P 6 a bad) P rb w a bad)
def wl2(P:RP)(rb m:Nat):Prop:=∀w a bad,RI P rb w a bad->(P.ts.length-a)*10+2<=m->Calls Tryz.prog 148 #[pA rb 0] w (EPx (ExS P 7 a bad) P rb w a bad)
def FP(P:RP)(rb m:Nat):Prop:=∀w a bad (row:Nat),row<=5->RI P rb w a bad->(P.ts.length-a)*10+(9-row)<=m->Calls Tryz.prog 77 #[pA rb 0,nI (row:Nat)] w (EPx (ExS P row a bad) P rb w a bad)
def Fr.le(h:Fr rb w w'):w.heap.size<=w'.heap.size:=h.size
def NL.fr{ns:List Nd}(h:NL w B v ns)(D:Fr rb w w')(d:∀b,v.ownBlock=some b->b≠rb):NL w' B v ns:=zb4 h λb o=>D.block b (h.lt b o).2 (λe=>d b o (aI e))
def Got.len'{S:List Nd->Nat->Int->Prop}{ns:List Nd}(h:Got S P a bad ns a' bad')(d:GT P)(G:a'<=P.ts.length):ns.length<=65544:=by
 have:=d.1;by_cases D:bad<0
 ·have o:=h.len D
  split at o<;>omega
 have:=(h.off oM).1;omega
def Got.to{S S':List Nd->Nat->Int->Prop}{ns:List Nd}(h:Got S P a bad ns a' bad')(d:S' ns a' bad'):Got S' P a bad ns a' bad':=⟨h.le,h.on,h.off,h.len,h.fit,d⟩
def FN(v:Value)(ns:List Nd):held [(v,ns)]=ns.map DK:=by simp[held]
def wb2(v u:Value)(ns d:List Nd):held [(v,ns),(u,d)]=ns.map DK++d.map DK:=by simp[held]
def HD.one{g:Nat}{ns:List Nd}(h:w.heap[g]?=some (.cells #[v] 25 (0,0)))(o:NL w 0 v ns):HD w (.slice (sA g 0) 1 1) [(v,ns)] :=
 ⟨⟨rfl,.inr ⟨g,1,_,rfl,dQ _,h,aK _,by decide,rfl,rfl⟩⟩,λp d=>by rw[aT]at d;subst d;exact o⟩
def HD.none(w:World):HD w (sZ) []:=⟨World.ownsRow_nil _ _ _ _,λp d=>by cases d⟩
def Got.node1{S S':List Nd->Nat->Int->Prop}{ns:List Nd}{n:Nd}(D:bad<0)(h:Got S P (a+1) bad ns a' bad')(o:n.Fit)(G:S' (BJ n [(v,ns)]) a' bad'):Got S' P a bad (BJ n [(v,ns)]) a' bad':=by
 have J:=h.le;refine⟨oM,λ_=>.inl oM,λI=>oM,λ_=>?_,?_,G⟩
 ·have d:=h.len D
  unfold BJ;rw[FN,aR,aM]
  split at d<;>(split<;>omega)
 intro x d;unfold BJ at d;rw[FN,bJ,bX]at d;rcases d with rfl | ⟨y,hy,rfl⟩
 ·exact⟨o.name,by simp,by simp,o.num⟩
 exact zf0 (h.fit y hy)
def NL.base{ns:List Nd}(h:NL w B v ns):NL w 0 v ns:=za7 h (zL_ _)
def zG8{S S':List Nd->Nat->Int->Prop}{K:World}{ns:List Nd}{n:Nd}{I:Value}{o:Obj}(Y:Ok w w2)(R:w.heap.size<=B)(L:RI P rb w3 a' bad')(G:Fr rb (w2.setCell (aD rb 1) u) w3)(O:bad<0)(D:Got S P (a+1) bad ns a' bad')(J:NL K B I (BJ n [(v,ns)]))(d:Ok (w3.alloc o) K)(W:n.Fit)(X:S' (BJ n [(v,ns)]) a' bad'):EPx S' P rb w a bad (.returned I) K :=
 ⟨I,_,a',bad',rfl,za7 J R,L.ok (((Ok.refl w3).alloc o).step d),(((Fr.of Y).set 1 u).trans G).trans (Fr.of (((Ok.refl w3).alloc o).step d)),Got.node1 O D W X,λZ=>oM⟩
def wf0(k o p:Int):(⟨0,k,⟨#[]⟩,0,o,p⟩:Nd).Fit:=⟨Nat.zero_le _,by simp,by simp,by simp⟩
def wr9{S:List Nd->Nat->Int->Prop}{ns:List Nd}(o:GT P)(h:Got S P a bad ns a' bad')(d:RI P rb w a' bad'):1+(held [(v,ns)]).length<=1000000:=by have:=h.len' o d.le;rw[FN,aM];omega
def zV8(P:RP)(rb m:Nat)(I:GT P)(G:∀k,k<m->wf3 P rb k)(d:∀k,k<m->wl2 P rb k):wf3 P rb m:=by
 intro w a bad h D;have H:=hid h;have HU:=hid G;have HA:=hid d;have HG:=hid I;have HM:=hid D;clear h G d I D
 cases h1:isS P a bad [45] with
 | true =>
  have L:=hid h1;clear h1;have a4:=(zb9 L.o).2;have a5:IntKind.i64.wrap ((a:Int)+1)=((a+1:Nat):Int):=zb3 (oH H.o.lim);go_enter Tryz.func115,Tryz.ntmps115
  go_wp2_with (first
   |(go_at_call 72;refine plC H.o λw1 HR HK=>?_)
   |(go_at_call 44;refine isC HR.o HK.o L.o λw2 K O=>?_;obtain⟨f0,f1,f2,f3,z0,z1,z2,z3⟩:=za6 K.o.row;have a3:=K.o.lt)
   |(go_at_call 115;refine(HU.o ((P.ts.length-(a+1))*10+3) (oH HM.o) _ (a+1) bad (K.o.setAt (a+1) a4) (nR_ _)).mono ?_;rintro e w3 ⟨v,ns,a',bad',rfl,D,G,J,d,_⟩;obtain⟨ao,cp,rfl⟩:=za0 D;have I:Hi (NL w3 0 (.slice ao ns.length cp) ns/\RI P rb w3 a' bad'/\Fr rb (w2.setCell (aD rb 1) (nI ((a+1:Nat):Int))) w3/\Got (ExS P 6 (a+1) bad) P (a+1) bad ns a' bad'):=⟨D.base,G,J,d⟩;clear D G J d f0 f1 f2 f3 z0 z1 z2 z3 a3)
   |(go_at_call 75;refine(zc3 _ ⟨0,14,⟨#[]⟩,0,1,(plS P a:Nat)⟩ _ [(.slice ao ns.length cp,ns)] (HD.one (za3 _ _) (za1 I.o.1 ((Ok.refl w3).alloc _))) (wr9 HG.o I.o.2.2.2 I.o.2.1) (by simp)).mono ?_;rintro e w4 ⟨v4,rfl,Y,R⟩;have HF:Hi (EPx (ExS P 6 a bad) P rb w a bad (.returned v4) w4):=zG8 O.o (by have h1:=O.o.le;have h2:=I.o.2.2.1.le;simp at h2 ⊢;omega) I.o.2.1 I.o.2.2.1 (zb9 L.o).1 I.o.2.2.2 Y R (wf0 _ _ _) (ExS.neg L.o (zb9 L.o).2 I.o.2.2.2.sem);clear Y R)
   | fail)
  go_ret;exact HF.o
 | false =>
  have Z:=hid h1;clear h1
  cases h2:isS P a bad [33] with
  | true =>
   have L:=hid h2;clear h2;have a4:=(zb9 L.o).2;have a5:IntKind.i64.wrap ((a:Int)+1)=((a+1:Nat):Int):=zb3 (oH H.o.lim);go_enter Tryz.func115,Tryz.ntmps115
   go_wp2_with (first
    |(go_at_call 72;refine plC H.o λw1 HR HK=>?_)
    |(go_at_call_of 44 ((⟨#[45]⟩:ByteArray));refine isC HR.o HK.o Z.o λw2 K O=>?_)
    |(go_at_call_of 44 ((⟨#[33]⟩:ByteArray));refine isC K.o O.o L.o λw5 W X=>?_;obtain⟨f0,f1,f2,f3,z0,z1,z2,z3⟩:=za6 W.o.row;have a3:=W.o.lt)
    |(go_at_call 115;refine(HU.o ((P.ts.length-(a+1))*10+3) (oH HM.o) _ (a+1) bad (W.o.setAt (a+1) a4) (nR_ _)).mono ?_;rintro e w3 ⟨v,ns,a',bad',rfl,D,G,J,d,_⟩;obtain⟨ao,cp,rfl⟩:=za0 D;have I:Hi (NL w3 0 (.slice ao ns.length cp) ns/\RI P rb w3 a' bad'/\Fr rb (w5.setCell (aD rb 1) (nI ((a+1:Nat):Int))) w3/\Got (ExS P 6 (a+1) bad) P (a+1) bad ns a' bad'):=⟨D.base,G,J,d⟩;clear D G J d f0 f1 f2 f3 z0 z1 z2 z3 a3)
    |(go_at_call 75;refine(zc3 _ ⟨0,14,⟨#[]⟩,0,2,(plS P a:Nat)⟩ _ [(.slice ao ns.length cp,ns)] (HD.one (za3 _ _) (za1 I.o.1 ((Ok.refl w3).alloc _))) (wr9 HG.o I.o.2.2.2 I.o.2.1) (by simp)).mono ?_;rintro e w4 ⟨v4,rfl,Y,R⟩;have HF:Hi (EPx (ExS P 6 a bad) P rb w a bad (.returned v4) w4):=zG8 X.o (by have h1:=X.o.le;have h2:=I.o.2.2.1.le;simp at h2 ⊢;omega) I.o.2.1 I.o.2.2.1 (zb9 L.o).1 I.o.2.2.2 Y R (wf0 _ _ _) (ExS.exc Z.o L.o (zb9 L.o).2 I.o.2.2.2.sem);clear Y R)
    | fail)
   go_ret;exact HF.o
  | false =>
   have L:=hid h2;clear h2;go_enter Tryz.func115,Tryz.ntmps115
   go_wp2_with (first
    |(go_at_call 72;refine plC H.o λw1 HR HK=>?_)
    |(go_at_call_of 44 ((⟨#[45]⟩:ByteArray));refine isC HR.o HK.o Z.o λw2 K O=>?_)
    |(go_at_call_of 44 ((⟨#[33]⟩:ByteArray));refine isC K.o O.o L.o λw5 W X=>?_)
    |(go_at_call 148;refine(HA.o ((P.ts.length-a)*10+2) (oH HM.o) _ a bad W.o (nR_ _)).mono ?_;rintro e w3 ⟨v,ns,a',bad',rfl,D,G,J,d,h0⟩;have HF:Hi (EPx (ExS P 6 a bad) P rb w a bad (.returned v) w3):=⟨v,ns,a',bad',rfl,za7 D X.o.le,G,(Fr.of X.o).trans J,d.to (ExS.atom Z.o L.o d.sem),h0⟩;clear D G J d h0)
    | fail)
   go_ret;exact HF.o
def atOf(rb:Nat)(w:World):Nat:=match w.cell? (aD rb 1) with | some v=>(intOf v).toNat | none=>0
def RI.atOf(h:RI P rb w a bad):atOf rb w=a:=by unfold Go.Proofs.YthoegkcpmgalbaaGreatDoor.atOf;rw[(za6 h.row).2.1];simp[intOf]
def zG9{g:Nat}{ns d:List Nd}(h:w.heap[g]?=some (.cells #[v,u] 25 (0,0)))(D:NL w 0 v ns)(G:NL w 0 u d):HD w (.slice (sA g 0) 2 2) [(v,ns),(u,d)] :=
 ⟨⟨rfl,.inr ⟨g,2,_,rfl,zL_ _,h,nR_ _,by decide,rfl,rfl⟩⟩,λp o=>by
  rw[bJ,aT]at o;rcases o with rfl | rfl
  ·exact D
  exact G⟩
def Got.node2{S S' S'':List Nd->Nat->Int->Prop}{ns:List Nd}{d:List Nd}{n:Nd}(h:Got S P a bad ns a1 bad1)(I:bad1<0)(o:Got S' P (a1+1) bad1 d a2 bad2)(J:n.Fit)(K:S'' (BJ n [(v,ns),(u,d)]) a2 bad2):Got S'' P a bad (BJ n [(v,ns),(u,d)]) a2 bad2:=by
 have W:=h.le;have R:=o.le
 have G:bad<0:=by
  by_cases D:bad<0
  ·exact D
  have:=(h.off oM).2.2;omega
 refine⟨oM,λ_=>.inl oM,λO=>oM,λ_=>?_,?_,K⟩
 ·have L:=h.len G
  have D:=o.len I;rw[aG I]at L;unfold BJ;rw[wb2,aR,aA,aM,aM]
  split at D<;>(split<;>omega)
 intro x D;unfold BJ at D;rw[wb2,bJ,bA,bX,bX]at D;rcases D with rfl | ⟨y,hy,rfl⟩ | ⟨y,hy,rfl⟩
 ·exact⟨J.name,by simp,by simp,J.num⟩
 ·exact zf0 (h.fit y hy)
 exact zf0 (o.fit y hy)
def XI(S:List Nd->Nat->Int->Prop)(P:RP)(rb:Nat)(w:World)(a:Nat)(bad:Int)(wr:World)(v:Value)(ns:List Nd)(a1:Nat)(bad1:Int):Prop :=
 NL wr w.heap.size v ns/\RI P rb wr a1 bad1/\Fr rb w wr/\Got S P a bad ns a1 bad1/\(0<=bad->ns=[])/\rb<w.heap.size
def XI.left{S:List Nd->Nat->Int->Prop}{ns:List Nd}(d:XI S P rb w a bad wr v ns a1 bad1)(I:Ok wr w2)(o:Fr rb (w2.setCell (aD rb 1) u) w3):NL w3 0 v ns/\w.heap.size<=w3.heap.size:=by have D:Fr rb wr w3:=((Fr.of I).set 1 u).trans o;refine⟨(NL.fr d.1 D (λb G=>?_)).base,aH d.2.2.1.le D.le⟩;have:=(d.1.lt b G).1;have:=d.2.2.2.2.2;omega
def zH0{S S' S'':List Nd->Nat->Int->Prop}{I:World}{ns D:List Nd}{n:Nd}{W X:Value}{o:Obj}(G:XI S P rb w a bad wr v ns a1 bad1)(hk:Ok wr w2)(L:bad1<0)(R:RI P rb w3 a2 bad2)(K:Fr rb (w2.setCell (aD rb 1) u) w3)(d:Got S' P (a1+1) bad1 D a2 bad2)(O:NL I B X (BJ n [(v,ns),(W,D)]))(hB:w.heap.size<=B)(J:Ok (w3.alloc o) I)(hn:n.Fit)(hs:S'' (BJ n [(v,ns),(W,D)]) a2 bad2):XI S'' P rb w a bad I X (BJ n [(v,ns),(W,D)]) a2 bad2:=by have h1:Fr rb wr w3:=((Fr.of hk).set 1 u).trans K;have Y:Ok w3 I:=((Ok.refl w3).alloc o).step J;refine⟨za7 O hB,R.ok Y,(G.2.2.1.trans h1).trans (Fr.of Y),Got.node2 G.2.2.2.1 L d hn hs,λZ=>?_,G.2.2.2.2.2⟩;have:=(G.2.2.2.1.off Z).2.2;omega
def wt7{S S':List Nd->Nat->Int->Prop}{ns o:List Nd}(D:GT P)(G:XI S P rb w a bad wr v ns a1 bad1)(h:Got S' P (a1+1) bad1 o a2 bad2)(d:RI P rb w3 a2 bad2):1+(held [(v,ns),(u,o)]).length<=1000000:=by have J:=h.len' D d.le;have I:=G.2.2.2.1.len' D G.2.1.le;rw[wb2,aA,aM,aM];omega
def XI.fin{S S':List Nd->Nat->Int->Prop}{ns:List Nd}(d:XI S P rb w a bad wr v ns a1 bad1)(o:Ok wr w')(D:S' ns a1 bad1):EPx S' P rb w a bad (.returned v) w' :=
 ⟨v,ns,a1,bad1,rfl,za1 d.1 o,d.2.1.ok o,d.2.2.1.trans (Fr.of o),d.2.2.2.1.to D,d.2.2.2.2.1⟩
def yf8{row:Nat}(h:opS P a bad row≠0):bad<0/\a<P.ts.length:=by
 unfold opS at h
 split at h
 ·exact yf7 h
 exact absurd rfl h
def yf9(P:RP)(rb m:Nat)(I:GT P)(D:∀k,k<m->wf3 P rb k)(G:∀k,k<m->FP P rb k):FP P rb m:=by
 intro w a bad row a6 h d;have H:=hid h;have HU:=hid D;have HE:=hid G;have HG:=hid I;have HM:Hi ((P.ts.length-a)*10+(9-row)<=m/\row<=5):=⟨d,a6⟩;clear h D G I d;by_cases d:row=5
 ·subst d
  go_enter Tryz.func77,Tryz.ntmps77
  go_wp2_with (first
   |(go_at_call 115;refine(HU.o ((P.ts.length-a)*10+3) (oH HM.o) _ a bad H.o (nR_ _)).mono ?_;rintro e w3 ⟨v,ns,a',bad',rfl,G,J,K,D,O⟩;have HF:Hi (EPx (ExS P 5 a bad) P rb w a bad (.returned v) w3):=⟨v,ns,a',bad',rfl,G,J,K,D.to D.sem.five,O⟩;clear G J K D O)
   | fail)
  go_ret;exact HF.o
 have b1:((row:Int)==5)=false:=by rw[aF];omega
 have R:row<5:=oM;have a8:IntKind.i64.wrap ((row:Int)+1)=((row+1:Nat):Int):=zb3 oM;clear d;go_enter Tryz.func77,Tryz.ntmps77
 go_wp2_with (first
  |(go_at_call 77;refine(HE.o ((P.ts.length-a)*10+(9-(row+1))) (oH HM.o) _ a bad (row+1) R H.o (nR_ _)).mono ?_;rintro e w3 ⟨v,ns,a',bad',rfl,G,J,K,D,O⟩;obtain⟨ao,cp,rfl⟩:=za0 G;have I:Hi (XI (LoS P row a bad) P rb w a bad w3 (.slice ao ns.length cp) ns a' bad'):=⟨G,J,K,D.to (LoS.begin R D.sem D.le),O,H.o.lt⟩;clear G J K D O)
  | fail)
 go_loopw [5] (λv wr=>∃(ao:Option Addr) (cp:Nat) (ns:List Nd) (a1:Nat) (bad1:Int),v=.slice ao ns.length cp/\Hi (XI (LoS P row a bad) P rb w a bad wr (.slice ao ns.length cp) ns a1 bad1)) (λ_ wr=>P.ts.length-atOf rb wr)
 case atStart=>exact⟨ao,cp,ns,a',bad',rfl,I⟩
 clear I;obtain⟨ao,cp,ns,a1,bad1,rfl,I⟩:=hrel;obtain⟨a3,d⟩:=qq (opS P a1 bad1 row);have HO:Hi (a3=opS P a1 bad1 row):=d;clear d
 cases O:(a3==0) with
 | true =>
  have L:a3=0:=bZ.1 O;subst L
  go_wp2_with (first
   |(go_at_call 116;refine mq (zm4 P rb _ a1 bad1 row R I.o.2.1) λw1 d=>?_;rw[<-HO.o];have HK:=hid d;clear d)
   | fail)
  go_ret;exact I.o.fin HK.o (LoS.fin R I.o.2.2.2.1.sem HO.o.symm)
 | false =>
  have HY:Hi (bad1<0/\a1<P.ts.length):=yf8 (row:=row) (by rw[<-HO.o];exact aF.1 O);have a5:=HY.o.2;have HZ:=hid O;have b2:IntKind.i64.wrap ((a1:Int)+1)=((a1+1:Nat):Int):=zb3 (oH I.o.2.1.lim);by_cases h2:row=2
  ·subst h2
   clear a8 b1
   go_wp2_with (first
    |(go_at_call 116;refine mq (zm4 P rb _ a1 bad1 2 (by decide) I.o.2.1) λw1 d=>?_;rw[<-HO.o];have HK:=hid d;have HR:=hid (I.o.2.1.ok d);clear d)
    |(go_at_call 72;refine mq (zb8 P rb _ a1 bad1 HR.o) λw2 d=>?_;have Z:=hid (HR.o.ok d);have X:=hid (HK.o.step d);obtain⟨f0,f1,f2,f3,z0,z1,z2,z3⟩:=za6 Z.o.row;have a4:=Z.o.lt;clear d)
    |(go_at_call 77;refine(HE.o ((P.ts.length-(a1+1))*10+(9-3)) (oK HM.o I.o.2.2.2.1.le) _ (a1+1) bad1 3 dC (Z.o.setAt (a1+1) a5) (nR_ _)).mono ?_;rintro e w3 ⟨v3,W,a2,bad2,rfl,G,J,K,D,_⟩;obtain⟨bo,cq,rfl⟩:=za0 G;have L:Hi (NL w3 0 (.slice bo W.length cq) W/\RI P rb w3 a2 bad2/\Fr rb (w2.setCell (aD rb 1) (nI ((a1+1:Nat):Int))) w3/\Got (ExS P 3 (a1+1) bad1) P (a1+1) bad1 W a2 bad2):=⟨G.base,J,K,D⟩;clear G J K D f0 f1 f2 f3 z0 z1 z2 z3 a4)
    |(go_at_call 75;refine(zc3 _ ⟨0,15,⟨#[]⟩,0,a3,(plS P a1:Nat)⟩ _ [(.slice ao ns.length cp,ns),(.slice bo W.length cq,W)] (zG9 (za3 _ _) (za1 (I.o.left X.o L.o.2.2.1).1 ((Ok.refl w3).alloc _)) (za1 L.o.1 ((Ok.refl w3).alloc _))) (wt7 HG.o I.o L.o.2.2.2 L.o.2.1) (by simp)).mono ?_;rintro e w4 ⟨v4,rfl,Y,d⟩;have HF:Hi (XI (ExS P 2 a bad) P rb w a bad w4 v4 (BJ ⟨0,15,⟨#[]⟩,0,a3,(plS P a1:Nat)⟩ [(.slice ao ns.length cp,ns),(.slice bo W.length cq,W)]) a2 bad2):=zH0 I.o X.o HY.o.1 L.o.2.1 L.o.2.2.1 L.o.2.2.2 Y (by have:=(I.o.left X.o L.o.2.2.1).2;simp;omega) d (wf0 _ _ _) (by have O:=HO.o;rw[O];exact LoS.two I.o.2.2.2.1.sem I.o.2.2.2.1.le (by rw[<-O];exact aF.1 HZ.o) HY.o.2 L.o.2.2.2.sem);obtain⟨a7,a9,rfl⟩:=za0 Y;clear Y d)
    | fail)
   go_ret;exact HF.o.fin (Ok.refl _) HF.o.2.2.2.1.sem
  have b0:=hid h2;have b3:((row:Int)==2)=false:=by rw[aF];omega
  go_wp2_with (first
   |(go_at_call 116;refine mq (zm4 P rb _ a1 bad1 row R I.o.2.1) λw1 d=>?_;rw[<-HO.o];have HK:=hid d;have HR:=hid (I.o.2.1.ok d);clear d)
   |(go_at_call 72;refine mq (zb8 P rb _ a1 bad1 HR.o) λw2 d=>?_;have Z:=hid (HR.o.ok d);have X:=hid (HK.o.step d);obtain⟨f0,f1,f2,f3,z0,z1,z2,z3⟩:=za6 Z.o.row;have a4:=Z.o.lt;clear d)
   |(go_at_call 77;refine(HE.o ((P.ts.length-(a1+1))*10+(9-(row+1))) (oK HM.o I.o.2.2.2.1.le) _ (a1+1) bad1 (row+1) R (Z.o.setAt (a1+1) a5) (nR_ _)).mono ?_;rintro e w3 ⟨v3,W,a2,bad2,rfl,G,J,K,D,_⟩;obtain⟨bo,cq,rfl⟩:=za0 G;have L:Hi (NL w3 0 (.slice bo W.length cq) W/\RI P rb w3 a2 bad2/\Fr rb (w2.setCell (aD rb 1) (nI ((a1+1:Nat):Int))) w3/\Got (ExS P (row+1) (a1+1) bad1) P (a1+1) bad1 W a2 bad2):=⟨G.base,J,K,D⟩;clear G J K D f0 f1 f2 f3 z0 z1 z2 z3 a4)
   |(go_at_call 75;refine(zc3 _ ⟨0,15,⟨#[]⟩,0,a3,(plS P a1:Nat)⟩ _ [(.slice ao ns.length cp,ns),(.slice bo W.length cq,W)] (zG9 (za3 _ _) (za1 (I.o.left X.o L.o.2.2.1).1 ((Ok.refl w3).alloc _)) (za1 L.o.1 ((Ok.refl w3).alloc _))) (wt7 HG.o I.o L.o.2.2.2 L.o.2.1) (by simp)).mono ?_;rintro e w4 ⟨v4,rfl,Y,d⟩;have HF:Hi (XI (LoS P row a bad) P rb w a bad w4 v4 (BJ ⟨0,15,⟨#[]⟩,0,a3,(plS P a1:Nat)⟩ [(.slice ao ns.length cp,ns),(.slice bo W.length cq,W)]) a2 bad2):=zH0 I.o X.o HY.o.1 L.o.2.1 L.o.2.2.1 L.o.2.2.2 Y (by have:=(I.o.left X.o L.o.2.2.1).2;simp;omega) d (wf0 _ _ _) (by have O:=HO.o;rw[O];exact LoS.next R b0.o I.o.2.2.2.1.sem I.o.2.2.2.1.le (by rw[<-O];exact aF.1 HZ.o) HY.o.2 L.o.2.2.2.sem L.o.2.2.2.le);obtain⟨a7,a9,rfl⟩:=za0 Y;clear Y d)
   | fail)
  go_roundw
  case rel=>exact⟨_,_,_,a2,bad2,rfl,HF⟩
  case measure =>
   have e1:=HF.o.2.1.atOf;have e2:=I.o.2.1.atOf;have:=L.o.2.2.2.le;rw[e1,e2];omega
end Go.Proofs.YthoegkcpmgalbaaGreatDoor
