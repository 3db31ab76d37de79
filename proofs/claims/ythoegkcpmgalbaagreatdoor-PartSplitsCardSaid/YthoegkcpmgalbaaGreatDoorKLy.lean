import Derived.Test.YthoegkcpmgalbaaGreatDoorKLs
set_option maxHeartbeats 8000000
set_option linter.all false
set_option maxRecDepth 100000
namespace Go.Proofs.YthoegkcpmgalbaaGreatDoor
open Go.RowKit
variable{P:RP}{a a2 ac e n rb:Nat}{bad bad2 badc:Int}{u v:Value}{w:World}
def yg5(P:RP)(rb m:Nat)(o:GT P)(J:∀k,k<m->FP P rb k):wl2 P rb m:=by
 intro w a bad h I;by_cases d:bad<0
 ·by_cases W:a<P.ts.length
  ·have D:P.ts[a]?=some P.ts[a]:=gG_ W
   by_cases G:P.ts[a].1=1
   ·exact yr5 P rb w a bad o h d _ D G
   cases K:isS P a bad [116,114,117,101] with
   | true=>exact yg1 P rb w a bad o m J I h d _ D G K
   | false =>
    cases L:isS P a bad [102,97,108,115,101] with
    | true=>exact zV9 P rb w a bad o m J I h d _ D G K L
    | false =>
     cases O:isS P a bad [40] with
     | true=>exact zW0 P rb w a bad o m J I h d _ D G K L O
     | false =>
      cases R:CN P a bad with
      | false=>exact yg2 P rb w a bad o m J I h d _ D G K L O R
      | true =>
       cases X:isS P (a+1) bad [91] with
       | false=>exact yg3 P rb w a bad o m J I h d _ D G K L O R X
       | true=>exact yg4 P rb w a bad o m J I h d _ D G K L O R X
  exact zR2 P rb w a bad h (.inr W)
 exact zR2 P rb w a bad h (.inl d)
def yr7(P:RP)(rb:Nat)(o:GT P)(m:Nat):wf3 P rb m/\wl2 P rb m/\FP P rb m:=by
 induction m using Nat.strongRecOn with
 | ind m ih =>
  have G:=λk d=>(ih k d).1;have I:=λk d=>(ih k d).2.1;have D:=λk d=>(ih k d).2.2;exact⟨zV8 P rb m o G I,yg5 P rb m o D,yf9 P rb m o G D⟩
def zk5(P:RP)(rb:Nat)(o:GT P)(w:World)(a:Nat)(bad:Int)(row:Nat)(d:row<=5)(h:RI P rb w a bad) :
  Calls Tryz.prog 77 #[pA rb 0,nI (row:Nat)] w (EPx (ExS P row a bad) P rb w a bad) :=
 (yr7 P rb o _).2.2 w a bad row d h (nR_ _)
def EPs(S:List Nd->Nat->Int->Prop)(P:RP)(rb:Nat)(w:World)(a:Nat)(bad:Int)(e:Ending)(w':World):Prop :=
 ∃v ns a' bad',e=.returned v/\NL w' w.heap.size v ns/\RI P rb w' a' bad'/\Fr rb w w'/\Got S P a bad ns a' bad'
def wl3(P:RP)(rb m:Nat):Prop:=∀w a bad,RI P rb w a bad->(P.ts.length-a)*10+2<=m->Calls Tryz.prog 46 #[pA rb 0] w (EPs (StS P a bad) P rb w a bad)
def wd4(P:RP)(rb m:Nat):Prop:=∀w a bad,RI P rb w a bad->(P.ts.length-a)*10+5<=m->Calls Tryz.prog 78 #[pA rb 0] w (EPs (BkS P a bad) P rb w a bad)
def badOf(rb:Nat)(w:World):Int:=match w.cell? (aD rb 3) with | some v=>intOf v | none=>0
def RI.badOf(h:RI P rb w a bad):badOf rb w=bad:=by unfold Go.Proofs.YthoegkcpmgalbaaGreatDoor.badOf;rw[(za6 h.row).2.2.2.1];simp[intOf]
structure wf1(S:List Nd->Nat->Int->Prop)(P:RP)(a:Nat)(ns:List Nd)(a':Nat)(bad':Int):Prop where
 le:a<=a'
 len:ns.length<=8*(a'-a)+(if bad'<0 then 0 else 8)
 fit:∀n∈ns,n.Fit
 sem:S ns a' bad'
def wf1.zero{S:List Nd->Nat->Int->Prop}(P:RP)(a:Nat)(bad:Int)(d:S [] a bad):wf1 S P a [] a bad:=⟨nR_ _,zL_ _,λn o=>(by cases o),d⟩
def wf1.more{S S':List Nd->Nat->Int->Prop}{ns d:List Nd}(h:wf1 S P a ns ac badc)(D:badc<0)(o:Got S' P ac badc d a2 bad2)(I:S (ns++d) a2 bad2):wf1 S P a (ns++d) a2 bad2:=by
 have L:=h.le;have K:=o.le;have J:=h.len;have G:=o.len D;rw[aG D]at J;refine⟨oM,?_,?_,I⟩
 ·rw[aA]
  split at G<;>(split<;>omega)
 intro n hn;rw[bA]at hn;rcases hn with hn | hn
 ·exact h.fit n hn
 exact o.fit n hn
def wf1.len'{S:List Nd->Nat->Int->Prop}{ns:List Nd}(h:wf1 S P a ns ac badc)(o:GT P)(D:ac<=P.ts.length):ns.length<=65544:=by
 have:=o.1;have d:=h.len
 split at d<;>omega
def wf1.block{S S':List Nd->Nat->Int->Prop}{ns:List Nd}{n:Nd}(L:bad<0)(h:wf1 S P (a+1) ns ac badc)(t:List UInt8)(G:n.Fit)(D:S' (BJ n [(v,ns)]) (if isS P ac badc t then ac+1 else ac) (if isS P ac badc t then badc else AF P ac badc)):Got S' P a bad (BJ n [(v,ns)]) (if isS P ac badc t then ac+1 else ac) (if isS P ac badc t then badc else AF P ac badc):=by
 have O:=h.le;have I:=h.len
 have d:∀x∈BJ n [(v,ns)],x.Fit:=by
  intro x o;unfold BJ at o;rw[FN,bJ,bX]at o;rcases o with rfl | ⟨y,hy,rfl⟩
  ·exact⟨G.name,by simp,by simp,G.num⟩
  exact zf0 (h.fit y hy)
 have o:(BJ n [(v,ns)]).length=ns.length+1:=by unfold BJ;rw[FN,aR,aM]
 revert D
 cases K:isS P ac badc t with
 | true =>
  have:=(zb9 K).1;simp only[dD];intro D;refine⟨oM,λ_=>.inl oM,λJ=>oM,λ_=>?_,d,D⟩;rw[o];rw[aG this]at I ⊢;omega
 | false =>
  have:=ze7 P ac badc;simp only[bL,cT];intro D;refine⟨oM,λ_=>.inl oM,λJ=>oM,λ_=>?_,d,D⟩;rw[o,aC oM]
  split at I<;>omega
def Got.badBlock{S:List Nd->Nat->Int->Prop}{o:Int}{n:Nd}(I:0<=o)(h:0<=bad->o=bad)(D:n.Fit)(J:S (BJ n [(v,[])]) a o):Got S P a bad (BJ n [(v,[])]) a o:=by
 have d:(BJ n [(v,[])]).length=1:=by unfold BJ;rw[FN];rfl
 refine⟨nR_ _,λ_=>.inr I,λG=>⟨oM,rfl,h G⟩,λ_=>?_,?_,J⟩
 ·rw[d,aC oM];omega
 intro x hx;unfold BJ at hx;rw[FN,bJ]at hx;rcases hx with rfl | hx
 ·exact⟨D.name,by simp,by simp,D.num⟩
 cases hx
def zB2(h:0<=bad)(t:List UInt8):isS P a bad t=false:=zu5 (.inl oM) t
def zj7(h:0<=bad):AF P a bad=bad:=by unfold AF;rw[aC oM]
def BI(S:List Nd->Nat->Int->Prop)(P:RP)(rb:Nat)(w:World)(a:Nat)(wr:World)(v:Value)(k:Nat)(ns:List Nd)(ac:Nat)(badc:Int):Prop :=
 wr.ownsRow w.heap.size 53 6 v k (ndL ns)/\k=ns.length/\RI P rb wr ac badc/\Fr rb w wr/\wf1 S P a ns ac badc/\rb<w.heap.size
def BI.more{S S':List Nd->Nat->Int->Prop}{a0:Nat}{wr Y L O:World}{k:Nat}{ns I:List Nd}{X:Value}(hH:RI P rb w a bad)(h:BI S P rb w a0 wr v k ns ac badc)(W:badc<0)(hk:Ok wr Y)(R:Fr rb Y L)(d:RI P rb L a2 bad2)(hg:Got S' P ac badc I a2 bad2)(hs:S (ns++I) a2 bad2)(ho:O.ownsRow w.heap.size 53 6 X (k+I.length) (ndL (ns++I)))(G:L.grownBy O v.ownBlock):BI S P rb w a0 O X (k+I.length) (ns++I) a2 bad2:=by
 have K:=h.2.2.2.2.2;have a1:∀b,v.ownBlock=some b->b≠rb:=λb W=>by have:=(h.1.lt b W).1;omega
 have J:Fr rb w L:=(h.2.2.2.1.trans (Fr.of hk)).trans R;have D:∀b,b<w.heap.size->O.heap[b]?=L.heap[b]?:=λb o=>G.block b (lL_ o J.le) (λe=>by have:=(h.1.lt b e.symm).1;omega);refine⟨ho,by rw[aA,h.2.1],⟨(D rb K).trans d.row,zb4 d.own (λb o=>D b (hH.own.lt b o).2),d.tk,d.ne,d.le,d.lim⟩,⟨G.os.trans J.os,G.tape.trans J.tape,G.output.trans J.output,aH J.size G.size,λb o Z=>(D b o).trans (J.block b o Z)⟩,h.2.2.2.2.1.more W hg hs,K⟩
def zW1(P:RP)(rb m:Nat)(G:GT P)(d:∀k,k<m->wl3 P rb k):wd4 P rb m:=by
 intro w a bad h D;have H:=hid h;have HS:=hid d;have HG:=hid G;have HM:=hid D;clear h d G D
 cases hi:isS P a bad [123] with
 | false =>
  obtain⟨L,d⟩:=qq (AF P a bad);have HI:=hid hi;have Y:Hi (L=AF P a bad):=d;have O:0<=L:=by rw[d];exact ze7 _ _ _
  have X:¬L<0:=oM;have b9:decide (L<0)=false:=dF_ X;have J:=hid O;clear hi d;go_enter Tryz.func78,Tryz.ntmps78
  go_wp2_with (first
   |(go_at_call 72;refine plC H.o λw1 a8 a6=>?_)
   |(go_at_call 74;refine mq (zc5 P rb _ a bad _ a8.o) λw2 ⟨G,Z⟩=>?_;rw[show isS P a bad (⟨#[123]⟩:ByteArray).toList=false by(rw[ByteArray.toList_eq];exact HI.o)]at G;simp only[bL,cT]at G;rw[<-Y.o]at G;have K:=hid G;have b6:=hid ((Fr.of a6.o).trans Z);obtain⟨f0,f1,f2,f3,z0,z1,z2,z3⟩:=za6 K.o.row;have a3:=K.o.lt;clear G Z)
   | fail)
  go_loopw [4] (λv wr=>v=sZ/\wr=w2) (λ_ _=>0)
  case atStart=>exact⟨rfl,rfl⟩
  obtain⟨rfl,rfl⟩:=hrel
  go_wp2_with (first
   |(go_at_call 74;refine mq (zc5 P rb _ a L _ K.o) λw3 ⟨D,R⟩=>?_;rw[zB2 J.o,zj7 J.o]at D;simp only[bL,cT]at D;have b7:=hid D;have W:=hid (b6.o.trans R);clear D R f0 f1 f2 f3 z0 z1 z2 z3 a3)
   |(go_at_call 75;refine(zc3 _ ⟨0,9,⟨#[]⟩,0,0,(plS P a:Nat)⟩ _ [(sZ,[])] (HD.one (za3 _ _) (World.ownsRow_nil _ _ _ _)) (by simp[held]) (by simp)).mono ?_;rintro e w4 ⟨v4,rfl,I,d⟩;have HF:Hi (EPs (BkS P a bad) P rb w a bad (.returned v4) w4):=⟨v4,_,a,L,rfl,za7 I (by have:=W.o.le;simp;omega),b7.o.ok (((Ok.refl w3).alloc _).step d),W.o.trans (Fr.of (((Ok.refl w3).alloc _).step d)),Got.badBlock J.o (λh0=>by rw[Y.o];exact zj7 h0) (wf0 _ _ _) (BkS.bad HI.o Y.o J.o)⟩;clear I d)
   | fail)
  go_ret;exact HF.o
 | true =>
  have HI:=hid hi;have a9:=hid ((zb9 hi).1);clear hi;go_enter Tryz.func78,Tryz.ntmps78
  go_wp2_with (first
   |(go_at_call 72;refine plC H.o λw1 a8 a6=>?_)
   |(go_at_call 74;refine mq (zc5 P rb _ a bad _ a8.o) λw2 ⟨G,Z⟩=>?_;rw[show isS P a bad (⟨#[123]⟩:ByteArray).toList=true by(rw[ByteArray.toList_eq];exact HI.o)]at G;simp only[dD]at G;have b8:Hi (BI (BlS P a bad) P rb w (a+1) w2 (sZ) 0 [] (a+1) bad):=⟨World.ownsRow_nil _ _ _ _,rfl,G,(Fr.of a6.o).trans Z,wf1.zero _ _ _ (BlS.begin HI.o (zb9 HI.o).2),H.o.lt⟩;clear G Z)
   | fail)
  go_loopw [4] (λv wr=>∃(oo:Option Addr) (oc:Nat) (ns:List Nd) (ac:Nat) (badc:Int),v=.slice oo ns.length oc/\Hi (BI (BlS P a bad) P rb w (a+1) wr (.slice oo ns.length oc) ns.length ns ac badc)) (λ_ wr=>(P.ts.length-atOf rb wr)*2+(if badOf rb wr<0 then 1 else 0))
  case atStart=>exact⟨none,0,[],a+1,bad,rfl,b8⟩
  obtain⟨oo,oc,ns,ac,badc,rfl,D⟩:=hrel;obtain⟨f0,f1,f2,f3,z0,z1,z2,z3⟩:=za6 D.o.2.2.1.row;have a3:=D.o.2.2.1.lt
  have b2:Hi (1+(held [((.slice oo ns.length oc:Value),ns)]).length<=1000000):=by have:=D.o.2.2.2.2.1.len' HG.o D.o.2.2.1.le;unfold Hi;rw[FN,aM];omega
  by_cases hb:badc<0
  ·have b5:decide (badc<0)=true:=dT_ hb
   have W:=hid hb
   cases h2:isS P ac badc [125] with
   | true =>
    have X:=hid h2;clear h2
    go_wp2_with (first
   |(go_at_call 44;refine mq (zb1 P rb _ ac badc _ D.o.2.2.1) λw5 d=>?_;rw[show isS P ac badc (⟨#[125]⟩:ByteArray).toList=true by(rw[ByteArray.toList_eq];exact X.o)];have a7:=hid (D.o.2.2.1.ok d);have R:=hid d;clear d f0 f1 f2 f3 z0 z1 z2 z3 a3)
   |(go_at_call 74;refine mq (zc5 P rb _ ac badc _ a7.o) λJ ⟨a1,K⟩=>?_;have HT:Hi (RI P rb J (if isS P ac badc (⟨#[125]⟩:ByteArray).toList then ac+1 else ac) (if isS P ac badc (⟨#[125]⟩:ByteArray).toList then badc else AF P ac badc)/\Fr rb w J/\NL J 0 (.slice oo ns.length oc) ns):=⟨a1,(D.o.2.2.2.1.trans (Fr.of R.o)).trans K,(NL.fr (za1 D.o.1 R.o) K (λb hb=>by have h1:=(D.o.1.lt b hb).1;have h2:=D.o.2.2.2.2.2;omega)).base⟩;clear a1 K)
   |(go_at_call 75;refine(zc3 _ ⟨0,9,⟨#[]⟩,0,0,(plS P a:Nat)⟩ _ [(.slice oo ns.length oc,ns)] (HD.one (za3 _ _) (za1 HT.o.2.2 ((Ok.refl J).alloc _))) b2.o (by simp)).mono ?_;rintro e w7 ⟨v4,rfl,I,d⟩;have HF:Hi (EPs (BkS P a bad) P rb w a bad (.returned v4) w7):=⟨v4,_,_,_,rfl,za7 I (by have:=HT.o.2.1.le;simp;omega),HT.o.1.ok (((Ok.refl J).alloc _).step d),HT.o.2.1.trans (Fr.of (((Ok.refl J).alloc _).step d)),D.o.2.2.2.2.1.block a9.o _ (wf0 _ _ _) (BlS.fin (by rw[ByteArray.toList_eq]) D.o.2.2.2.2.1.sem (.inr X.o))⟩;clear I d)
   | fail)
    go_ret;exact HF.o
   | false =>
    have X:=hid h2;clear h2
    go_wp2_with (first
   |(go_at_call 44;refine mq (zb1 P rb _ ac badc _ D.o.2.2.1) λw5 d=>?_;rw[show isS P ac badc (⟨#[125]⟩:ByteArray).toList=false by(rw[ByteArray.toList_eq];exact X.o)];have a7:=hid (D.o.2.2.1.ok d);have R:=hid d;clear d f0 f1 f2 f3 z0 z1 z2 z3 a3)
   |(go_at_call 46;refine(HS.o ((P.ts.length-ac)*10+2) (oK HM.o D.o.2.2.2.2.1.le) _ ac badc a7.o (nR_ _)).mono ?_;rintro e J ⟨v6,ms,a2,bad2,rfl,b4,b1,b3,a5⟩;have O:Hi (NL J w5.heap.size v6 ms/\RI P rb J a2 bad2/\Fr rb w5 J/\Got (StS P ac badc) P ac badc ms a2 bad2):=⟨b4,b1,b3,a5⟩;clear b4 b1 b3 a5)
   |(at_builtin;refine zd8 rfl _ _ rfl w.heap.size _ ns.length ns (by rfl) (NL.fr (za1 D.o.1 R.o) O.o.2.2.1 (λb hb=>by have h1:=(D.o.1.lt b hb).1;have h2:=D.o.2.2.2.2.2;omega)) w5.heap.size v6 ms (by rfl) O.o.1 (by have h1:=D.o.2.2.2.2.1.len' HG.o D.o.2.2.1.le;have h2:=O.o.2.2.2.len' HG.o O.o.2.1.le;omega) (by have h1:=D.o.2.2.2.1.le;have h2:=R.o.le;have h3:=O.o.2.2.1.le;omega) ?_;intro v7 w7 L Y;have a4:Hi (BI (BlS P a bad) P rb w (a+1) w7 v7 (ns.length+ms.length) (ns++ms) a2 bad2):=BI.more H.o D.o W.o R.o O.o.2.2.1 O.o.2.1 O.o.2.2.2 (BlS.next D.o.2.2.2.2.1.sem (oH D.o.2.2.2.2.1.le) W.o X.o O.o.2.2.2.sem (O.o.2.2.2.on W.o) O.o.2.2.2.le O.o.2.1.le) L Y;obtain⟨o7,c7,rfl⟩:=za0 L;clear L Y)
   | fail)
    go_roundw
    case rel=>exact⟨o7,c7,ns++ms,a2,bad2,by rw[aA],(by have h:=a4.o;rw[<-aA]at h;exact h)⟩
    case measure =>
     have e1:=a4.o.2.2.1.atOf;have e2:=D.o.2.2.1.atOf;have e3:=a4.o.2.2.1.badOf;have e4:=D.o.2.2.1.badOf;have h1:=O.o.2.2.2.le;have h2:=O.o.2.2.2.on W.o;have h3:=(zu5 (P:=P) (a:=ac) (bad:=badc));have h4:=a4.o.2.2.1.le;rw[e1,e2,e3,e4,aG W.o]
     split
     ·rcases h2 with h2 | h2<;>omega
     omega
  have b5:decide (badc<0)=false:=dF_ hb;have L:=hid hb
  go_wp2_with (first
  |(go_at_call 74;refine mq (zc5 P rb _ ac badc _ D.o.2.2.1) λJ ⟨a1,K⟩=>?_;have HT:Hi (RI P rb J (if isS P ac badc (⟨#[125]⟩:ByteArray).toList then ac+1 else ac) (if isS P ac badc (⟨#[125]⟩:ByteArray).toList then badc else AF P ac badc)/\Fr rb w J/\NL J 0 (.slice oo ns.length oc) ns):=⟨a1,D.o.2.2.2.1.trans K,(NL.fr (D.o.1) K (λb hb=>by have h1:=(D.o.1.lt b hb).1;have h2:=D.o.2.2.2.2.2;omega)).base⟩;clear a1 K)
  |(go_at_call 75;refine(zc3 _ ⟨0,9,⟨#[]⟩,0,0,(plS P a:Nat)⟩ _ [(.slice oo ns.length oc,ns)] (HD.one (za3 _ _) (za1 HT.o.2.2 ((Ok.refl J).alloc _))) b2.o (by simp)).mono ?_;rintro e w7 ⟨v4,rfl,I,d⟩;have HF:Hi (EPs (BkS P a bad) P rb w a bad (.returned v4) w7):=⟨v4,_,_,_,rfl,za7 I (by have:=HT.o.2.1.le;simp;omega),HT.o.1.ok (((Ok.refl J).alloc _).step d),HT.o.2.1.trans (Fr.of (((Ok.refl J).alloc _).step d)),D.o.2.2.2.2.1.block a9.o _ (wf0 _ _ _) (BlS.fin (by rw[ByteArray.toList_eq]) D.o.2.2.2.2.1.sem (.inl (by have h:=L.o;omega)))⟩;clear I d)
  | fail)
  go_ret;exact HF.o
structure Acc(P:RP)(a n ac:Nat)(badc:Int)(e:Nat):Prop where
 le:a+1<=ac
 len:n<=8*(ac-(a+1))+(if badc<0 then 0 else 8)+e
def Acc.start(P:RP)(a:Nat)(bad:Int):Acc P a 0 (a+1) bad 0:=⟨nR_ _,zL_ _⟩
def Acc.take(h:Acc P a n ac badc e)(t:List UInt8):Acc P a n (if isS P ac badc t then ac+1 else ac) (if isS P ac badc t then badc else AF P ac badc) e:=by
 have D:=h.le;have d:=h.len
 cases o:isS P ac badc t with
 | true =>
  simp only[dD];refine⟨oM,?_⟩
  split at d<;>(split<;>omega)
 | false =>
  have:=ze7 P ac badc;simp only[bL,cT];refine⟨oM,?_⟩;rw[aC oM]
  split at d<;>omega
def Acc.name(h:Acc P a n ac badc e):Acc P a n (if CN P ac badc then ac+1 else ac) (if CN P ac badc then badc else AF P ac badc) e:=by
 have D:=h.le;have d:=h.len
 cases o:CN P ac badc with
 | true =>
  simp only[dD];refine⟨oM,?_⟩
  split at d<;>(split<;>omega)
 | false =>
  have:=ze7 P ac badc;simp only[bL,cT];refine⟨oM,?_⟩;rw[aC oM]
  split at d<;>omega
def Acc.expr{S:List Nd->Nat->Int->Prop}{ns:List Nd}(h:Acc P a n ac badc e)(d:Got S P ac badc ns a2 bad2)(I:0<=badc->ns=[]):Acc P a (n+ns.length) a2 bad2 e:=by
 have J:=h.le;have D:=h.len;have K:=d.le;refine⟨oM,?_⟩;by_cases o:badc<0
 ·have G:=d.len o
  rw[aG o]at D
  split at G<;>(split<;>omega)
 have G:=d.off oM;rw[I oM,G.2.1,G.2.2];simpa using D
def Acc.block{S:List Nd->Nat->Int->Prop}{ns:List Nd}(h:Acc P a n ac badc e)(d:Got S P ac badc ns a2 bad2):Acc P a (n+ns.length) a2 bad2 (e+1):=by
 have I:=h.le;have D:=h.len;have J:=d.le;refine⟨oM,?_⟩;by_cases o:badc<0
 ·have G:=d.len o
  rw[aG o]at D
  split at G<;>(split<;>omega)
 have G:=d.off oM;rw[G.2.1,G.2.2]
 split at D<;>(split<;>omega)
def Acc.got{S:List Nd->Nat->Int->Prop}{d:Nd}{ps:List (Value×List Nd)}(L:bad<0)(h:Acc P a n ac badc e)(O:e<=7)(o:d.Fit)(D:(held ps).length=n)(I:∀x∈held ps,x.Fit)(J:S (BJ d ps) ac badc):Got S P a bad (BJ d ps) ac badc:=by
 have R:=h.le;have G:=h.len;refine⟨oM,λ_=>.inl oM,λK=>oM,λ_=>?_,?_,J⟩
 ·unfold BJ
  rw[aR,D]
  split at G<;>(split<;>omega)
 intro x hx;unfold BJ at hx;rw[bJ]at hx;rcases hx with rfl | hx
 ·exact⟨o.name,by simp,by simp,o.num⟩
 exact I x hx
def zg4{S:List Nd->Nat->Int->Prop}{J D:World}{B:Nat}{G:Nd}{ps:List (Value×List Nd)}{I:Value}(Z:Fr rb w J)(L:RI P rb J ac badc)(O:bad<0)(h:Acc P a n ac badc e)(R:e<=7)(X:G.Fit)(Y:(held ps).length=n)(o:∀x∈held ps,x.Fit)(K:NL D B I (BJ G ps))(W:w.heap.size<=B)(d:Ok J D)(hs:S (BJ G ps) ac badc):EPs S P rb w a bad (.returned I) D :=
 ⟨I,_,ac,badc,rfl,za7 K W,L.ok d,Z.trans (Fr.of d),Acc.got O h R X Y o hs⟩
def yg6{S:List Nd->Nat->Int->Prop}{ns:List Nd}(h:Got S P a bad ns a2 bad2):∀x∈held [(v,ns)],x.Fit:=by intro x d;rw[FN,bX]at d;obtain⟨y,o,rfl⟩:=d;exact zf0 (h.fit y o)
def yg7(P:RP)(rb:Nat)(w:World)(a:Nat)(bad:Int)(L:GT P)(h:RI P rb w a bad)(J:isS P a bad [105,110,112,117,116]=false)(K:isS P a bad [97,115,115,101,114,116]=false)(d:isS P a bad [115,107,105,112]=true):Calls Tryz.prog 46 #[pA rb 0] w (EPs (StS P a bad) P rb w a bad):=by
 have H:=hid h;have HG:=hid L;have G:Hi _:=J;have D:Hi _:=K;have I:Hi _:=d;have X:=hid ((zb9 d).1);have ha:a<P.ts.length:=(zb9 d).2;clear J K d;have a8:IntKind.i64.wrap ((a:Int)+1)=((a+1:Nat):Int):=zb3 (oH H.o.lim);clear h L;go_enter Tryz.func46,Tryz.ntmps46
 go_wp2_with (first
  |(go_at_call 72;refine plC H.o λw1 a5 a4=>?_)
  |(go_at_call_of 44 ((⟨#[105,110,112,117,116]⟩:ByteArray));refine isC a5.o a4.o G.o λw2 a7 a6=>?_)
  |(go_at_call_of 44 ((⟨#[97,115,115,101,114,116]⟩:ByteArray));refine isC a7.o a6.o D.o λw3 Y a1=>?_)
  |(go_at_call_of 44 ((⟨#[115,107,105,112]⟩:ByteArray));refine isC Y.o a1.o I.o λw4 d Z=>?_;obtain⟨f0,f1,f2,f3,z0,z1,z2,z3⟩:=za6 d.o.row;have a3:=d.o.lt)
  |(go_at_call 74;refine mq (zc5 P rb _ (a+1) bad _ (d.o.setAt (a+1) ha)) λL ⟨R,J⟩=>?_;have HT:Hi (RI P rb L (if isS P (a+1) bad (⟨#[59]⟩:ByteArray).toList then (a+1)+1 else (a+1)) (if isS P (a+1) bad (⟨#[59]⟩:ByteArray).toList then bad else AF P (a+1) bad)/\Fr rb w L):=⟨R,Fr.trans ((Fr.of Z.o).set 1 _) J⟩;clear f0 f1 f2 f3 z0 z1 z2 z3 a3;clear R J)
  |(go_at_call 75;refine(zc3 _ ⟨0,6,⟨#[]⟩,0,0,(plS P a:Nat)⟩ _ [] (HD.none _) (by simp[held]) (by simp)).mono ?_;rintro e W ⟨v4,rfl,O,K⟩;have HF:Hi (EPs (StS P a bad) P rb w a bad (.returned v4) W):=zg4 HT.o.2 HT.o.1 X.o (Acc.take (Acc.start P a bad) _) (by decide) (wf0 _ _ _) rfl (λx hx=>by cases hx) O HT.o.2.le K (StS.skip (by rw[ByteArray.toList_eq]) G.o D.o I.o);clear O K)
  | fail)
 go_ret;exact HF.o
def zf1{b:Bool}{s:ByteArray}(o:GT P)(d:s.toList=(if b then txS P a else [])):s.size<=1000000:=by
 cases b with
 | true=>exact zu6 o (by simpa using d)
 | false =>
  rw[<-zc2,d];simp
def zW2(P:RP)(rb:Nat)(w:World)(a:Nat)(bad:Int)(D:GT P)(h:RI P rb w a bad)(d:isS P a bad [105,110,112,117,116]=true):Calls Tryz.prog 46 #[pA rb 0] w (EPs (StS P a bad) P rb w a bad):=by
 have H:=hid h;have HG:=hid D;have J:Hi _:=d;have a5:=hid ((zb9 d).1);have ha:a<P.ts.length:=(zb9 d).2;clear d;have b4:IntKind.i64.wrap ((a:Int)+1)=((a+1:Nat):Int):=zb3 (oH H.o.lim);clear h D;go_enter Tryz.func46,Tryz.ntmps46
 go_wp2_with (first
  |(go_at_call 72;refine plC H.o λw1 b2 b1=>?_)
  |(go_at_call_of 44 ((⟨#[105,110,112,117,116]⟩:ByteArray));refine isC b2.o b1.o J.o λw2 O b3=>?_;obtain⟨f0,f1,f2,f3,z0,z1,z2,z3⟩:=za6 O.o.row;have b0:=O.o.lt)
  |(go_at_call 73;refine(zi5 P rb _ (a+1) bad (O.o.setAt (a+1) ha)).mono ?_;rintro e X ⟨s,rfl,hs,K,Y⟩;have a7:=hid (zf1 HG.o hs);obtain⟨G,D⟩:=qq ((if CN P (a+1) bad then a+1+1 else a+1));obtain⟨I,d⟩:=qq ((if CN P (a+1) bad then bad else AF P (a+1) bad));rw[<-D,<-d]at K;have L:Hi (RI P rb X G I/\Fr rb w X/\Acc P a 0 G I 0):=⟨K,((Fr.of b3.o).set 1 _).trans Y,(by rw[D,d];exact(Acc.start P a bad).name)⟩;have a9:Hi (s=naT P (a+1) bad):=zq8 hs;have a8:Hi (G=naA P (a+1) bad/\I=naB P (a+1) bad):=⟨D,d⟩;clear hs K Y D d f0 f1 f2 f3 z0 z1 z2 z3 b0)
  |(go_at_call 74;refine mq (zc5 P rb _ G I _ L.o.1) λZ ⟨a3,R⟩=>?_;have HT:Hi (RI P rb Z (if isS P G I (⟨#[59]⟩:ByteArray).toList then G+1 else G) (if isS P G I (⟨#[59]⟩:ByteArray).toList then I else AF P G I)/\Fr rb w Z):=⟨a3,Fr.trans L.o.2.1 R⟩;clear a3 R)
  |(go_at_call 75;refine(zc3 _ ⟨0,4,s,0,0,(plS P a:Nat)⟩ _ [] (HD.none _) (by simp[held]) (by simp)).mono ?_;rintro e a4 ⟨v4,rfl,a1,W⟩;have HF:Hi (EPs (StS P a bad) P rb w a bad (.returned v4) a4):=zg4 HT.o.2 HT.o.1 a5.o (Acc.take L.o.2.2 _) (by decide) ⟨a7.o,by simp,by simp,by simp⟩ rfl (λx hx=>by cases hx) a1 HT.o.2.le W (StS.input2 (by rw[ByteArray.toList_eq]) J.o a9.o a8.o);clear a1 W)
  | fail)
 go_ret;exact HF.o
def zL5(P:RP)(rb:Nat)(w:World)(a:Nat)(bad:Int)(G:GT P)(h:RI P rb w a bad)(D:isS P a bad [105,110,112,117,116]=false)(d:isS P a bad [97,115,115,101,114,116]=true):Calls Tryz.prog 46 #[pA rb 0] w (EPs (StS P a bad) P rb w a bad):=by
 have H:=hid h;have HG:=hid G;have L:Hi _:=D;have K:Hi _:=d;have a9:=hid ((zb9 d).1);have ha:a<P.ts.length:=(zb9 d).2;clear D d;have b5:IntKind.i64.wrap ((a:Int)+1)=((a+1:Nat):Int):=zb3 (oH H.o.lim);clear h G;go_enter Tryz.func46,Tryz.ntmps46
 go_wp2_with (first
  |(go_at_call 72;refine plC H.o λw1 b2 b1=>?_)
  |(go_at_call_of 44 ((⟨#[105,110,112,117,116]⟩:ByteArray));refine isC b2.o b1.o L.o λw2 b4 b3=>?_)
  |(go_at_call_of 44 ((⟨#[97,115,115,101,114,116]⟩:ByteArray));refine isC b4.o b3.o K.o λw3 X a3=>?_;obtain⟨f0,f1,f2,f3,z0,z1,z2,z3⟩:=za6 X.o.row;have b0:=X.o.lt)
  |(go_at_call 77;refine(zk5 P rb HG.o _ (a+1) bad 0 (by decide) (X.o.setAt (a+1) ha)).mono ?_;rintro e Y ⟨v3,G,I,J,rfl,Z,W,a4,d,h0⟩;obtain⟨bo,cq,rfl⟩:=za0 Z;have HQ:Hi (NL Y w.heap.size (.slice bo G.length cq) G/\Got (ExS P 0 (a+1) bad) P (a+1) bad G I J/\G.length<=65544):=⟨za7 Z (by have:=a3.o.le;simpa using this),d,d.len' HG.o W.le⟩;have R:Hi (RI P rb Y I J/\Fr rb w Y/\Acc P a (0+G.length) I J 0):=⟨W,((Fr.of a3.o).set 1 _).trans a4,(Acc.start P a bad).expr d h0⟩;clear Z W a4 d h0 f0 f1 f2 f3 z0 z1 z2 z3 b0)
  |(go_at_call 74;refine mq (zc5 P rb _ I J _ R.o.1) λD ⟨a7,O⟩=>?_;have HT:Hi (RI P rb D (if isS P I J (⟨#[59]⟩:ByteArray).toList then I+1 else I) (if isS P I J (⟨#[59]⟩:ByteArray).toList then J else AF P I J)/\Fr rb w D):=⟨a7,Fr.trans R.o.2.1 O⟩;have HN:Hi (NL D 0 (.slice bo G.length cq) G):=(NL.fr HQ.o.1 O (λb hb=>by have h1:=(HQ.o.1.lt b hb).1;have h2:=H.o.lt;omega)).base;clear a7 O)
  |(go_at_call 75;refine(zc3 _ ⟨0,5,⟨#[]⟩,0,0,(plS P a:Nat)⟩ _ [(.slice bo G.length cq,G)] (HD.one (za3 _ _) (za1 HN.o ((Ok.refl D).alloc _))) (by have:=HQ.o.2.2;rw[FN,aM];omega) (by simp)).mono ?_;rintro e a8 ⟨v4,rfl,a5,a1⟩;have HF:Hi (EPs (StS P a bad) P rb w a bad (.returned v4) a8):=zg4 HT.o.2 HT.o.1 a9.o (Acc.take R.o.2.2 _) (by decide) (wf0 _ _ _) (by rw[FN,aM,aL]) (yg6 HQ.o.2.1) a5 (by have:=HT.o.2.le;simp;omega) (((Ok.refl D).alloc _).step a1) (StS.assert (by rw[ByteArray.toList_eq]) L.o K.o HQ.o.2.1.sem);clear a5 a1)
  | fail)
 go_ret;exact HF.o
def zH1{S S':List Nd->Nat->Int->Prop}{L K:Nat}{o d:Int}{ns G:List Nd}(h:Got S P a bad ns a2 bad2)(J:Got S' P L o G K d):∀x∈held [(v,ns),(u,G)],x.Fit:=by
 intro x I;rw[wb2,bA,bX,bX]at I;rcases I with ⟨y,D,rfl⟩ | ⟨y,D,rfl⟩
 ·exact zf0 (h.fit y D)
 exact zf0 (J.fit y D)
def wn9(v u t:Value)(ns d o:List Nd):held [(v,ns),(u,d),(t,o)]=ns.map DK++(d.map DK++o.map DK):=by simp[held]
def yg8{S S' S'':List Nd->Nat->Int->Prop}{Z Y X W:Nat}{D d I o:Int}{ns K O:List Nd}{t:Value}(h:Got S P a bad ns a2 bad2)(R:Got S' P Z D K Y d)(J:Got S'' P X I O W o):∀x∈held [(v,ns),(u,K),(t,O)],x.Fit:=by
 intro x L;rw[wn9,bA,bA,bX,bX,bX]at L;rcases L with ⟨y,G,rfl⟩ | ⟨y,G,rfl⟩ | ⟨y,G,rfl⟩
 ·exact zf0 (h.fit y G)
 ·exact zf0 (R.fit y G)
 exact zf0 (J.fit y G)
def yr8{g:Nat}{t:Value}{ns d D:List Nd}(h:w.heap[g]?=some (.cells #[v,u,t] 25 (0,0)))(I:NL w 0 v ns)(G:NL w 0 u d)(J:NL w 0 t D):HD w (.slice (sA g 0) 3 3) [(v,ns),(u,d),(t,D)] :=
 ⟨⟨rfl,.inr ⟨g,3,_,rfl,zL_ _,h,nR_ _,by decide,rfl,rfl⟩⟩,λp o=>by
  rw[bJ,bJ,aT]at o;rcases o with rfl | rfl | rfl
  ·exact I
  ·exact G
  exact J⟩
def Acc.on(h:Acc P a n ac badc e):Acc P a n (ac+1) badc e:=by
 have o:=h.le;have d:=h.len;refine⟨oM,?_⟩
 split at d<;>(split<;>omega)
def NL.up{w1 w2:World}{ns:List Nd}(h:NL w1 w.heap.size v ns)(d:Fr rb w1 w2)(D:rb<w.heap.size):NL w2 w.heap.size v ns:=NL.fr h d (λb o=>by have G:=(h.lt b o).1;omega)
def zW3(P:RP)(rb:Nat)(w:World)(a:Nat)(bad:Int)(m:Nat)(J:∀k,k<m->wd4 P rb k)(K:(P.ts.length-a)*10+2<=m)(L:GT P)(h:RI P rb w a bad)(G:isS P a bad [105,110,112,117,116]=false)(I:isS P a bad [97,115,115,101,114,116]=false)(D:isS P a bad [115,107,105,112]=false)(d:isS P a bad [119,104,105,108,101]=true):Calls Tryz.prog 46 #[pA rb 0] w (EPs (StS P a bad) P rb w a bad):=by
 have H:=hid h;have HG:=hid L;have c0:=hid J;have HM:=hid K;clear J K;have X:Hi _:=G;have R:Hi _:=I;have Y:Hi _:=D;have W:Hi _:=d;have b0:=hid ((zb9 d).1);have ha:a<P.ts.length:=(zb9 d).2;clear G I D d;have c2:IntKind.i64.wrap ((a:Int)+1)=((a+1:Nat):Int):=zb3 (oH H.o.lim);clear h L;go_enter Tryz.func46,Tryz.ntmps46
 go_wp2_with (first
  |(go_at_call 72;refine plC H.o λw1 b8 b5=>?_)
  |(go_at_call_of 44 ((⟨#[105,110,112,117,116]⟩:ByteArray));refine isC b8.o b5.o X.o λw2 c1 b9=>?_)
  |(go_at_call_of 44 ((⟨#[97,115,115,101,114,116]⟩:ByteArray));refine isC c1.o b9.o R.o λw3 b3 b2=>?_)
  |(go_at_call_of 44 ((⟨#[115,107,105,112]⟩:ByteArray));refine isC b3.o b2.o Y.o λw4 a8 b1=>?_)
  |(go_at_call_of 44 ((⟨#[119,104,105,108,101]⟩:ByteArray));refine isC a8.o b1.o W.o λw5 Z a5=>?_;obtain⟨f0,f1,f2,f3,z0,z1,z2,z3⟩:=za6 Z.o.row;have b4:=Z.o.lt)
  |(go_at_call 77;refine(zk5 P rb HG.o _ (a+1) bad 0 (by decide) (Z.o.setAt (a+1) ha)).mono ?_;rintro e a1 ⟨v3,L,a6,b6,rfl,I,D,J,d,h0⟩;obtain⟨bo,cq,rfl⟩:=za0 I;have HQ:Hi (NL a1 w.heap.size (.slice bo L.length cq) L/\Got (ExS P 0 (a+1) bad) P (a+1) bad L a6 b6/\L.length<=65544):=⟨za7 I (by have:=a5.o.le;simpa using this),d,d.len' HG.o D.le⟩;have K:Hi (RI P rb a1 a6 b6/\Fr rb w a1/\Acc P a (0+L.length) a6 b6 0):=⟨D,((Fr.of a5.o).set 1 _).trans J,(Acc.start P a bad).expr d h0⟩;clear I D J d h0 f0 f1 f2 f3 z0 z1 z2 z3 b4)
  |(go_at_call 78;refine(c0.o ((P.ts.length-a6)*10+5) (oK HM.o K.o.2.2.le) _ a6 b6 K.o.1 (nR_ _)).mono ?_;rintro e G ⟨v5,ks,a7,b7,rfl,I,D,J,d⟩;obtain⟨ko,kq,rfl⟩:=za0 I;have HS:Hi (NL G w.heap.size (.slice ko ks.length kq) ks/\Got (BkS P a6 b6) P a6 b6 ks a7 b7/\ks.length<=65544/\NL G w.heap.size (.slice bo L.length cq) L):=⟨za7 I K.o.2.1.le,d,d.len' HG.o D.le,NL.up HQ.o.1 J H.o.lt⟩;have O:Hi (RI P rb G a7 b7/\Fr rb w G/\Acc P a (0+L.length+ks.length) a7 b7 1):=⟨D,K.o.2.1.trans J,K.o.2.2.block d⟩;clear I D J d)
  |(go_at_call 75;refine(zc3 _ ⟨0,8,⟨#[]⟩,0,0,(plS P a:Nat)⟩ _ [(.slice bo L.length cq,L),(.slice ko ks.length kq,ks)] (zG9 (za3 _ _) (za1 HS.o.2.2.2.base ((Ok.refl G).alloc _)) (za1 HS.o.1.base ((Ok.refl G).alloc _))) (by have:=HQ.o.2.2;have:=HS.o.2.2.1;rw[wb2,aA,aM,aM];omega) (by simp)).mono ?_;rintro e a9 ⟨v4,rfl,a4,a3⟩;have HF:Hi (EPs (StS P a bad) P rb w a bad (.returned v4) a9):=zg4 O.o.2.1 O.o.1 b0.o O.o.2.2 (by decide) (wf0 _ _ _) (by rw[wb2,aA,aM,aM,aL]) (zH1 HQ.o.2.1 HS.o.2.1) a4 (by have:=(O.o.2.1).le;simp;omega) (((Ok.refl G).alloc _).step a3) (StS.while ha X.o R.o Y.o W.o HQ.o.2.1.sem HQ.o.2.1.le HS.o.2.1.sem);clear a4 a3)
  | fail)
 go_ret;exact HF.o
def yA7(P:RP)(rb:Nat)(w:World)(a:Nat)(bad:Int)(m:Nat)(I:∀k,k<m->wd4 P rb k)(L:(P.ts.length-a)*10+2<=m)(O:GT P)(h:RI P rb w a bad)(K:isS P a bad [105,110,112,117,116]=false)(D:isS P a bad [97,115,115,101,114,116]=false)(J:isS P a bad [115,107,105,112]=false)(G:isS P a bad [119,104,105,108,101]=false)(d:isS P a bad [105,102]=true):Calls Tryz.prog 46 #[pA rb 0] w (EPs (StS P a bad) P rb w a bad):=by
 have H:=hid h;have HG:=hid O;have c3:=hid I;have HM:=hid L;clear I L;have a3:Hi _:=K;have a9:Hi _:=D;have b1:Hi _:=J;have b0:Hi _:=G;have a5:Hi _:=d;have c2:=hid ((zb9 d).1);have ha:a<P.ts.length:=(zb9 d).2;clear K D J G d;have d6:IntKind.i64.wrap ((a:Int)+1)=((a+1:Nat):Int):=zb3 (oH H.o.lim);clear h O;go_enter Tryz.func46,Tryz.ntmps46
 go_wp2_with (first
  |(go_at_call 72;refine plC H.o λw1 d3 c6=>?_)
  |(go_at_call_of 44 ((⟨#[105,110,112,117,116]⟩:ByteArray));refine isC d3.o c6.o a3.o λw2 c9 c8=>?_)
  |(go_at_call_of 44 ((⟨#[97,115,115,101,114,116]⟩:ByteArray));refine isC c9.o c8.o a9.o λw3 d2 c5=>?_)
  |(go_at_call_of 44 ((⟨#[115,107,105,112]⟩:ByteArray));refine isC d2.o c5.o b1.o λw4 c4 c7=>?_)
  |(go_at_call_of 44 ((⟨#[119,104,105,108,101]⟩:ByteArray));refine isC c4.o c7.o b0.o λw5 d0 d4=>?_)
  |(go_at_call_of 44 ((⟨#[105,102]⟩:ByteArray));refine isC d0.o d4.o a5.o λw6 R c1=>?_;obtain⟨f0,f1,f2,f3,z0,z1,z2,z3⟩:=za6 R.o.row;have b9:=R.o.lt)
  |(go_at_call 77;refine(zk5 P rb HG.o _ (a+1) bad 0 (by decide) (R.o.setAt (a+1) ha)).mono ?_;rintro e b5 ⟨v3,X,a6,b6,rfl,L,J,K,d,h0⟩;obtain⟨bo,cq,rfl⟩:=za0 L;have HQ:Hi (NL b5 w.heap.size (.slice bo X.length cq) X/\Got (ExS P 0 (a+1) bad) P (a+1) bad X a6 b6/\X.length<=65544):=⟨za7 L (by have:=c1.o.le;simpa using this),d,d.len' HG.o J.le⟩;have R:Hi (RI P rb b5 a6 b6/\Fr rb w b5/\Acc P a (0+X.length) a6 b6 0):=⟨J,((Fr.of c1.o).set 1 _).trans K,(Acc.start P a bad).expr d h0⟩;clear L J K d h0 f0 f1 f2 f3 z0 z1 z2 z3 b9)
  |(go_at_call 78;refine(c3.o ((P.ts.length-a6)*10+5) (oK HM.o R.o.2.2.le) _ a6 b6 R.o.1 (nR_ _)).mono ?_;rintro e b4 ⟨v5,Z,Y,b7,rfl,L,J,K,d⟩;obtain⟨ko,kq,rfl⟩:=za0 L;have HS:Hi (NL b4 w.heap.size (.slice ko Z.length kq) Z/\Got (BkS P a6 b6) P a6 b6 Z Y b7/\Z.length<=65544/\NL b4 w.heap.size (.slice bo X.length cq) X):=⟨za7 L R.o.2.1.le,d,d.len' HG.o J.le,NL.up HQ.o.1 K H.o.lt⟩;have O:Hi (RI P rb b4 Y b7/\Fr rb w b4/\Acc P a (0+X.length+Z.length) Y b7 1):=⟨J,R.o.2.1.trans K,R.o.2.2.block d⟩;clear L J K d)
  | fail)
 cases b3:isS P Y b7 [101,108,115,101] with
 | false =>
  have a1:=hid b3;clear b3;refine mq (zb1 P rb _ Y b7 _ O.o.1) λG D=>?_;rw[show isS P Y b7 (⟨#[101,108,115,101]⟩:ByteArray).toList=false by(rw[ByteArray.toList_eq];exact a1.o)];have I:Hi (RI P rb G Y b7/\Fr rb w G/\NL G w.heap.size (.slice bo X.length cq) X/\NL G w.heap.size (.slice ko Z.length kq) Z):=⟨O.o.1.ok D,O.o.2.1.trans (Fr.of D),za1 HS.o.2.2.2 D,za1 HS.o.1 D⟩;clear D
  go_wp2_with (first
   |(go_at_call 75;refine(zc3 _ ⟨0,7,⟨#[]⟩,0,0,(plS P a:Nat)⟩ _ [(.slice bo X.length cq,X),(.slice ko Z.length kq,Z)] (zG9 (za3 _ _) (za1 I.o.2.2.1.base ((Ok.refl G).alloc _)) (za1 I.o.2.2.2.base ((Ok.refl G).alloc _))) (by have:=HQ.o.2.2;have:=HS.o.2.2.1;rw[wb2,aA,aM,aM];omega) (by simp)).mono ?_;rintro e c0 ⟨v4,rfl,a4,D⟩;have HF:Hi (EPs (StS P a bad) P rb w a bad (.returned v4) c0):=zg4 I.o.2.1 I.o.1 c2.o O.o.2.2 (by decide) (wf0 _ _ _) (by rw[wb2,aA,aM,aM,aL]) (zH1 HQ.o.2.1 HS.o.2.1) a4 (by have:=(I.o.2.1).le;simp;omega) (((Ok.refl G).alloc _).step D) (StS.ifs ha a3.o a9.o b1.o b0.o a5.o HQ.o.2.1.sem HQ.o.2.1.le HS.o.2.1.sem a1.o);clear a4 D)
   | fail)
  go_ret;exact HF.o
 | true =>
  have a1:=hid b3;clear b3;have d1:Y<P.ts.length:=(zb9 a1.o).2;have d5:IntKind.i64.wrap ((Y:Int)+1)=((Y+1:Nat):Int):=zb3 (oH H.o.lim);refine mq (zb1 P rb _ Y b7 _ O.o.1) λG D=>?_;rw[show isS P Y b7 (⟨#[101,108,115,101]⟩:ByteArray).toList=true by(rw[ByteArray.toList_eq];exact a1.o)];have I:Hi (RI P rb G Y b7/\Fr rb w G/\NL G w.heap.size (.slice bo X.length cq) X/\NL G w.heap.size (.slice ko Z.length kq) Z):=⟨O.o.1.ok D,O.o.2.1.trans (Fr.of D),za1 HS.o.2.2.2 D,za1 HS.o.1 D⟩;obtain⟨f0,f1,f2,f3,z0,z1,z2,z3⟩:=za6 I.o.1.row;have b9:=I.o.1.lt;clear D
  go_wp2_with (first
   |(go_at_call 78;refine(c3.o ((P.ts.length-(Y+1))*10+5) (oK HM.o O.o.2.2.le) _ (Y+1) b7 (I.o.1.setAt (Y+1) d1) (aK _)).mono ?_;rintro e W ⟨v6,js,a8,b8,rfl,L,J,K,d⟩;obtain⟨jo,jq,rfl⟩:=za0 L;have HU:Hi (NL W w.heap.size (.slice jo js.length jq) js/\Got (BkS P (Y+1) b7) P (Y+1) b7 js a8 b8/\js.length<=65544/\NL W w.heap.size (.slice bo X.length cq) X/\NL W w.heap.size (.slice ko Z.length kq) Z):=⟨za7 L (by have:=I.o.2.1.le;simpa using this),d,d.len' HG.o J.le,NL.up I.o.2.2.1 (((Fr.refl rb G).set 1 _).trans K) H.o.lt,NL.up I.o.2.2.2 (((Fr.refl rb G).set 1 _).trans K) H.o.lt⟩;have b2:Hi (RI P rb W a8 b8/\Fr rb w W/\Acc P a (0+X.length+Z.length+js.length) a8 b8 2):=⟨J,(I.o.2.1.set 1 _).trans K,O.o.2.2.on.block d⟩;clear L J K d f0 f1 f2 f3 z0 z1 z2 z3 b9)
   |(go_at_call 75;refine(zc3 _ ⟨0,7,⟨#[]⟩,0,0,(plS P a:Nat)⟩ _ [(.slice bo X.length cq,X),(.slice ko Z.length kq,Z),(.slice jo js.length jq,js)] (yr8 (za3 _ _) (za1 HU.o.2.2.2.1.base ((Ok.refl W).alloc _)) (za1 HU.o.2.2.2.2.base ((Ok.refl W).alloc _)) (za1 HU.o.1.base ((Ok.refl W).alloc _))) (by have:=HQ.o.2.2;have:=HS.o.2.2.1;have:=HU.o.2.2.1;rw[wn9,aA,aA,aM,aM,aM];omega) (by simp)).mono ?_;rintro e c0 ⟨v4,rfl,a4,D⟩;have HF:Hi (EPs (StS P a bad) P rb w a bad (.returned v4) c0):=zg4 b2.o.2.1 b2.o.1 c2.o b2.o.2.2 (by decide) (wf0 _ _ _) (by rw[wn9,aA,aA,aM,aM,aM];omega) (yg8 HQ.o.2.1 HS.o.2.1 HU.o.2.1) a4 (by have:=b2.o.2.1.le;simp;omega) (((Ok.refl W).alloc _).step D) (StS.ifelse ha a3.o a9.o b1.o b0.o a5.o HQ.o.2.1.sem HQ.o.2.1.le HS.o.2.1.sem HS.o.2.1.le a1.o HU.o.2.1.sem);clear a4 D)
   | fail)
  go_ret;exact HF.o
def zL6(P:RP)(rb:Nat)(w:World)(a:Nat)(bad:Int)(L:GT P)(h:RI P rb w a bad)(G:isS P a bad [105,110,112,117,116]=false)(D:isS P a bad [97,115,115,101,114,116]=false)(d:isS P a bad [115,107,105,112]=false)(J:isS P a bad [119,104,105,108,101]=false)(I:isS P a bad [105,102]=false)(K:CN P a bad=false):Calls Tryz.prog 46 #[pA rb 0] w (EPs (StS P a bad) P rb w a bad):=by
 have H:=hid h;have HG:=hid L;have X:Hi _:=G;have R:Hi _:=D;have Y:Hi _:=d;have W:Hi _:=J;have O:Hi _:=I;clear G D d J I;have HN:=hid K;obtain⟨I,D⟩:=qq (AF P a bad);have HB:Hi (I=AF P a bad):=D;have d:Hi (0<=I):=by rw[D];exact ze7 _ _ _
 clear h L K D;go_enter Tryz.func46,Tryz.ntmps46
 go_wp2_with (first
  |(go_at_call 72;refine plC H.o λw1 c7 c6=>?_)
  |(go_at_call_of 44 ((⟨#[105,110,112,117,116]⟩:ByteArray));refine isC c7.o c6.o X.o λw2 c9 c8=>?_)
  |(go_at_call_of 44 ((⟨#[97,115,115,101,114,116]⟩:ByteArray));refine isC c9.o c8.o R.o λw3 c3 c2=>?_)
  |(go_at_call_of 44 ((⟨#[115,107,105,112]⟩:ByteArray));refine isC c3.o c2.o Y.o λw4 b7 c1=>?_)
  |(go_at_call_of 44 ((⟨#[119,104,105,108,101]⟩:ByteArray));refine isC b7.o c1.o W.o λw5 b5 d1=>?_)
  |(go_at_call_of 44 ((⟨#[105,102]⟩:ByteArray));refine isC b5.o d1.o O.o λw6 b9 b8=>?_)
  |(go_at_call 73;refine(zi5 P rb _ a bad b9.o).mono ?_;rintro e a7 ⟨s,rfl,hs,J,a5⟩;have c0:=hid (zf1 HG.o hs);have c5:Hi (s=naT P a bad):=zq8 hs;rw[HN.o]at J;simp only[bL,cT]at J;rw[<-HB.o]at J;have Z:Hi (RI P rb a7 a I/\Fr rb w a7):=⟨J,(Fr.of b8.o).trans a5⟩;clear hs J a5)
  |(go_at_call_of 44 ((⟨#[91]⟩:ByteArray));refine mq (zb1 P rb _ a I _ Z.o.1) λa8 D=>?_;rw[zB2 d.o];have a9:Hi (RI P rb a8 a I/\Fr rb w a8):=⟨Z.o.1.ok D,Z.o.2.trans (Fr.of D)⟩;clear D)
  |(go_at_call_of 74 ((⟨#[58,61]⟩:ByteArray));refine mq (zc5 P rb _ a I _ a9.o.1) λb3 ⟨K,hf⟩=>?_;rw[zB2 d.o,zj7 d.o]at K;simp only[bL,cT]at K;have a3:Hi (RI P rb b3 a I/\Fr rb w b3):=⟨K,a9.o.2.trans hf⟩;clear K hf)
  | fail)
 refine(zk5 P rb HG.o _ a I 0 dC a3.o.1).mono ?_;rintro e a4 ⟨v3,ms,a6,b6,rfl,L,a1,b1,G,h0⟩;have e1:=(G.off d.o).2.1;have e2:=(G.off d.o).2.2;have e3:=h0 d.o;have d2:Hi (exA P a I=([],a,I)):=by have:=G.sem.all;rw[e1,e2,e3]at this;exact this
 rw[e1,e2]at a1;rw[e3]at L;obtain⟨bo,cq,rfl⟩:=za0 L;have b4:Hi (RI P rb a4 a I/\Fr rb w a4):=⟨a1,a3.o.2.trans b1⟩;have d0:=hid (za7 L a3.o.2.le);clear L a1 b1 G h0 e1 e2 e3
 go_wp2_with (first
  |(go_at_call_of 74 ((⟨#[59]⟩:ByteArray));refine mq (zc5 P rb _ a I _ b4.o.1) λG ⟨K,hf⟩=>?_;rw[zB2 d.o,zj7 d.o]at K;simp only[bL,cT]at K;have L:Hi (RI P rb G a I/\Fr rb w G):=⟨K,b4.o.2.trans hf⟩;have c4:=hid (NL.up d0.o hf H.o.lt);clear K hf)
  |(go_at_call 75;refine(zc3 _ ⟨0,2,s,0,0,(plS P a:Nat)⟩ _ [(.slice bo 0 cq,[])] (HD.one (za3 _ _) (za1 c4.o.base ((Ok.refl G).alloc _))) (by simp[held]) (by simp)).mono ?_;rintro e d3 ⟨v4,rfl,b2,D⟩;have HF:Hi (EPs (StS P a bad) P rb w a bad (.returned v4) d3):=⟨v4,_,a,I,rfl,za7 b2 (by have:=L.o.2.le;simp;omega),L.o.1.ok (((Ok.refl G).alloc _).step D),L.o.2.trans (Fr.of (((Ok.refl G).alloc _).step D)),Got.badBlock d.o (λh0=>by rw[HB.o];exact zj7 h0) ⟨c0.o,by simp,by simp,by simp⟩ (StS.noname ⟨X.o,R.o,Y.o,W.o,O.o⟩ HN.o c5.o HB.o d.o d2.o)⟩;clear b2 D)
  | fail)
 go_ret;exact HF.o
end Go.Proofs.YthoegkcpmgalbaaGreatDoor
