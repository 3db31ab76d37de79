import Derived.Test.YtpongdpnbclchaaGreatDoorKLs
set_option maxHeartbeats 8000000
set_option linter.all false
set_option maxRecDepth 100000
namespace Go.Proofs.YtpongdpnbclchaaGreatDoor
variable{P:RP}{a a2 ac e n rb:Nat}{bad bad2 badc:Int}{u v:Value}{w:World}
section
open Go.RowKit
theorem yg5(P:RP)(rb m:Nat)(hG:GT P)(hE:∀k,k<m->FH P rb k):wk7 P rb m:=by
 intro w a bad h hm;by_cases hb:bad<0
 ·by_cases ha:a<P.ts.length
  ·have hx:P.ts[a]?=some P.ts[a]:=gG_ ha
   by_cases hk:P.ts[a].1=1
   ·exact yr5 P rb w a bad hG h hb _ hx hk
   cases h2:isS P a bad [116,114,117,101] with
   | true=>exact yg1 P rb w a bad hG m hE hm h hb _ hx hk h2
   | false =>
    cases h3:isS P a bad [102,97,108,115,101] with
    | true=>exact zV9 P rb w a bad hG m hE hm h hb _ hx hk h2 h3
    | false =>
     cases h4:isS P a bad [40] with
     | true=>exact zW0 P rb w a bad hG m hE hm h hb _ hx hk h2 h3 h4
     | false =>
      cases hn:CK P a bad with
      | false=>exact yg2 P rb w a bad hG m hE hm h hb _ hx hk h2 h3 h4 hn
      | true =>
       cases h8:isS P (a+1) bad [91] with
       | false=>exact yg3 P rb w a bad hG m hE hm h hb _ hx hk h2 h3 h4 hn h8
       | true=>exact yg4 P rb w a bad hG m hE hm h hb _ hx hk h2 h3 h4 hn h8
  exact zR2 P rb w a bad h (.inr ha)
 exact zR2 P rb w a bad h (.inl hb)
theorem yr7(P:RP)(rb:Nat)(hG:GT P)(m:Nat):wf9 P rb m/\wk7 P rb m/\FH P rb m:=by
 induction m using Nat.strongRecOn with
 | ind m ih =>
  have hU:=λk hk=>(ih k hk).1;have hA:=λk hk=>(ih k hk).2.1;have hE:=λk hk=>(ih k hk).2.2;exact⟨zV8 P rb m hG hU hA,yg5 P rb m hG hE,yf9 P rb m hG hU hE⟩
theorem zk5(P:RP)(rb:Nat)(hG:GT P)(w:World)(a:Nat)(bad:Int)(row:Nat)(hrow:row<=5)(h:RI P rb w a bad) :
  Calls Tryz.prog 74 #[pA rb 0,nI (row:Nat)] w (EPx (ExS P row a bad) P rb w a bad) :=
 (yr7 P rb hG _).2.2 w a bad row hrow h (nR_ _)
end
section
open Go.RowKit
def EPs(S:List Nd->Nat->Int->Prop)(P:RP)(rb:Nat)(w:World)(a:Nat)(bad:Int)(e:Ending)(w':World):Prop :=
 ∃v ns a' bad',e=.returned v/\NL w' w.heap.size v ns/\RI P rb w' a' bad'/\Fr rb w w'/\Got S P a bad ns a' bad'
def wk8(P:RP)(rb m:Nat):Prop:=∀w a bad,RI P rb w a bad->(P.ts.length-a)*10+2<=m->Calls Tryz.prog 41 #[pA rb 0] w (EPs (StS P a bad) P rb w a bad)
def wd2(P:RP)(rb m:Nat):Prop:=∀w a bad,RI P rb w a bad->(P.ts.length-a)*10+5<=m->Calls Tryz.prog 75 #[pA rb 0] w (EPs (BkS P a bad) P rb w a bad)
def badOf(rb:Nat)(w:World):Int:=match w.cell? (aD rb 3) with | some v=>intOf v | none=>0
theorem RI.badOf(h:RI P rb w a bad):badOf rb w=bad:=by unfold Go.Proofs.YtpongdpnbclchaaGreatDoor.badOf;rw[(za6 h.row).2.2.2.1];simp[intOf]
structure wf2(S:List Nd->Nat->Int->Prop)(P:RP)(a:Nat)(ns:List Nd)(a':Nat)(bad':Int):Prop where
 le:a<=a'
 len:ns.length<=8*(a'-a)+(if bad'<0 then 0 else 8)
 fit:∀n∈ns,n.Fit
 sem:S ns a' bad'
theorem wf2.zero{S:List Nd->Nat->Int->Prop}(P:RP)(a:Nat)(bad:Int)(hs:S [] a bad):wf2 S P a [] a bad:=⟨nR_ _,zL_ _,λn hn=>(by cases hn),hs⟩
theorem wf2.more{S S':List Nd->Nat->Int->Prop}{ns ms:List Nd}(h:wf2 S P a ns ac badc)(hb:badc<0)(hg:Got S' P ac badc ms a2 bad2)(hs:S (ns++ms) a2 bad2):wf2 S P a (ns++ms) a2 bad2:=by
 have h1:=h.le;have h2:=hg.le;have h3:=h.len;have h4:=hg.len hb;rw[if_pos hb]at h3;refine⟨by omega,?_,?_,hs⟩
 ·rw[List.length_append]
  split at h4<;>(split<;>omega)
 intro n hn;rw[List.mem_append]at hn;rcases hn with hn | hn
 ·exact h.fit n hn
 exact hg.fit n hn
theorem wf2.len'{S:List Nd->Nat->Int->Prop}{ns:List Nd}(h:wf2 S P a ns ac badc)(hG:GT P)(ha:ac<=P.ts.length):ns.length<=65544:=by
 have:=hG.1;have h1:=h.len
 split at h1<;>omega
theorem wf2.block{S S':List Nd->Nat->Int->Prop}{ns:List Nd}{n:Nd}(hb:bad<0)(h:wf2 S P (a+1) ns ac badc)(t:List UInt8)(hn:n.Fit)(hs:S' (BK n [(v,ns)]) (if isS P ac badc t then ac+1 else ac) (if isS P ac badc t then badc else AI P ac badc)):Got S' P a bad (BK n [(v,ns)]) (if isS P ac badc t then ac+1 else ac) (if isS P ac badc t then badc else AI P ac badc):=by
 have h1:=h.le;have h2:=h.len
 have hfit:∀x∈BK n [(v,ns)],x.Fit:=by
  intro x hx;unfold BK at hx;rw[FF,List.mem_cons,List.mem_map]at hx;rcases hx with rfl | ⟨y,hy,rfl⟩
  ·exact⟨hn.name,by simp,by simp,hn.num⟩
  exact zf0 (h.fit y hy)
 have hlen:(BK n [(v,ns)]).length=ns.length+1:=by unfold BK;rw[FF,List.length_cons,List.length_map]
 revert hs
 cases ht:isS P ac badc t with
 | true =>
  have:=(zb9 ht).1;simp only[if_true];intro hs;refine⟨by omega,λ_=>.inl oM,λh0=>by omega,λ_=>?_,hfit,hs⟩;rw[hlen];rw[if_pos this]at h2 ⊢;omega
 | false =>
  have:=ze7 P ac badc;simp only[Bool.false_eq_true,if_false];intro hs;refine⟨by omega,λ_=>.inl oM,λh0=>by omega,λ_=>?_,hfit,hs⟩;rw[hlen,if_neg (by omega)]
  split at h2<;>omega
theorem Got.badBlock{S:List Nd->Nat->Int->Prop}{b0:Int}{n:Nd}(hb:0<=b0)(h:0<=bad->b0=bad)(hn:n.Fit)(hs:S (BK n [(v,[])]) a b0):Got S P a bad (BK n [(v,[])]) a b0:=by
 have hlen:(BK n [(v,[])]).length=1:=by unfold BK;rw[FF];rfl
 refine⟨nR_ _,λ_=>.inr hb,λh0=>⟨by omega,rfl,h h0⟩,λ_=>?_,?_,hs⟩
 ·rw[hlen,if_neg (by omega)];omega
 intro x hx;unfold BK at hx;rw[FF,List.mem_cons]at hx;rcases hx with rfl | hx
 ·exact⟨hn.name,by simp,by simp,hn.num⟩
 cases hx
theorem zB2(h:0<=bad)(t:List UInt8):isS P a bad t=false:=zu5 (.inl oM) t
theorem zj7(h:0<=bad):AI P a bad=bad:=by unfold AI;rw[if_neg (by omega)]
def BI(S:List Nd->Nat->Int->Prop)(P:RP)(rb:Nat)(w:World)(a:Nat)(wr:World)(v:Value)(k:Nat)(ns:List Nd)(ac:Nat)(badc:Int):Prop :=
 wr.ownsRow w.heap.size 78 6 v k (ndL ns)/\k=ns.length/\RI P rb wr ac badc/\Fr rb w wr/\wf2 S P a ns ac badc/\rb<w.heap.size
theorem BI.more{S S':List Nd->Nat->Int->Prop}{a0:Nat}{wr w1 w2 w4:World}{k:Nat}{ns ms:List Nd}{v':Value}(hH:RI P rb w a bad)(h:BI S P rb w a0 wr v k ns ac badc)(hb:badc<0)(hk:Ok wr w1)(hfr:Fr rb w1 w2)(hri:RI P rb w2 a2 bad2)(hg:Got S' P ac badc ms a2 bad2)(hs:S (ns++ms) a2 bad2)(ho:w4.ownsRow w.heap.size 78 6 v' (k+ms.length) (ndL (ns++ms)))(hgr:w2.grownBy w4 v.ownBlock):BI S P rb w a0 w4 v' (k+ms.length) (ns++ms) a2 bad2:=by
 have hlt:=h.2.2.2.2.2;have hne:∀b,v.ownBlock=some b->b≠rb:=λb hb=>by have:=(h.1.lt b hb).1;omega
 have h1:Fr rb w w2:=(h.2.2.2.1.trans (Fr.of hk)).trans hfr;have hblk:∀b,b<w.heap.size->w4.heap[b]?=w2.heap[b]?:=λb hb'=>hgr.block b (lL_ hb' h1.le) (λe=>by have:=(h.1.lt b e.symm).1;omega);refine⟨ho,by rw[List.length_append,h.2.1],⟨(hblk rb hlt).trans hri.row,zb4 hri.own (λb hb'=>hblk b (hH.own.lt b hb').2),hri.tk,hri.ne,hri.le,hri.lim⟩,⟨hgr.os.trans h1.os,hgr.tape.trans h1.tape,hgr.output.trans h1.output,Nat.le_trans h1.size hgr.size,λb hb' hn=>(hblk b hb').trans (h1.block b hb' hn)⟩,h.2.2.2.2.1.more hb hg hs,hlt⟩
theorem zW1(P:RP)(rb m:Nat)(hG:GT P)(hS:∀k,k<m->wk8 P rb k):wd2 P rb m:=by
 intro w a bad h hm;have H:=hid h;have HS:=hid hS;have HG:=hid hG;have HM:=hid hm;clear h hS hG hm
 cases hi:isS P a bad [123] with
 | false =>
  obtain⟨b0,hb0⟩:=qq (AI P a bad);have HI:=hid hi;have HB:Hi (b0=AI P a bad):=hb0;have hpos:0<=b0:=by rw[hb0];exact ze7 _ _ _
  have hnn:¬b0<0:=oM;have hdn:decide (b0<0)=false:=dF_ hnn;have HPO:=hid hpos;clear hi hb0;go_enter Tryz.func75,Tryz.ntmps75
  go_wp2_with (first
   |(go_at_call 69;refine plC H.o λw1 HR1 HK1=>?_)
   |(go_at_call 71;refine mq (zc5 P rb _ a bad _ HR1.o) λw2 ⟨hr2,hf2⟩=>?_;rw[show isS P a bad (⟨#[123]⟩:ByteArray).toList=false by(rw[ByteArray.toList_eq];exact HI.o)]at hr2;simp only[Bool.false_eq_true,if_false]at hr2;rw[<-HB.o]at hr2;have HR2:=hid hr2;have HF2:=hid ((Fr.of HK1.o).trans hf2);obtain⟨f0,f1,f2,f3,z0,z1,z2,z3⟩:=za6 HR2.o.row;have hlt:=HR2.o.lt;clear hr2 hf2)
   | fail)
  go_loopw [4] (λv wr=>v=sZ/\wr=w2) (λ_ _=>0)
  case atStart=>exact⟨rfl,rfl⟩
  obtain⟨rfl,rfl⟩:=hrel
  go_wp2_with (first
   |(go_at_call 71;refine mq (zc5 P rb _ a b0 _ HR2.o) λw3 ⟨hr3,hf3⟩=>?_;rw[zB2 HPO.o,zj7 HPO.o]at hr3;simp only[Bool.false_eq_true,if_false]at hr3;have HR3:=hid hr3;have HF3:=hid (HF2.o.trans hf3);clear hr3 hf3 f0 f1 f2 f3 z0 z1 z2 z3 hlt)
   |(go_at_call 72;refine(zc3 _ ⟨0,9,⟨#[]⟩,0,0,(plS P a:Nat)⟩ _ [(sZ,[])] (HD.one (za3 _ _) (World.ownsRow_nil _ _ _ _)) (by simp[held]) (by simp)).mono ?_;rintro e w4 ⟨v4,rfl,hn4,hok⟩;have HF:Hi (EPs (BkS P a bad) P rb w a bad (.returned v4) w4):=⟨v4,_,a,b0,rfl,za7 hn4 (by have:=HF3.o.le;simp;omega),HR3.o.ok (((Ok.refl w3).alloc _).step hok),HF3.o.trans (Fr.of (((Ok.refl w3).alloc _).step hok)),Got.badBlock HPO.o (λh0=>by rw[HB.o];exact zj7 h0) (wf1 _ _ _) (BkS.bad HI.o HB.o HPO.o)⟩;clear hn4 hok)
   | fail)
  go_ret;exact HF.o
 | true =>
  have HI:=hid hi;have HB0:=hid ((zb9 hi).1);clear hi;go_enter Tryz.func75,Tryz.ntmps75
  go_wp2_with (first
   |(go_at_call 69;refine plC H.o λw1 HR1 HK1=>?_)
   |(go_at_call 71;refine mq (zc5 P rb _ a bad _ HR1.o) λw2 ⟨hr2,hf2⟩=>?_;rw[show isS P a bad (⟨#[123]⟩:ByteArray).toList=true by(rw[ByteArray.toList_eq];exact HI.o)]at hr2;simp only[if_true]at hr2;have HX0:Hi (BI (BlS P a bad) P rb w (a+1) w2 (sZ) 0 [] (a+1) bad):=⟨World.ownsRow_nil _ _ _ _,rfl,hr2,(Fr.of HK1.o).trans hf2,wf2.zero _ _ _ (BlS.begin HI.o (zb9 HI.o).2),H.o.lt⟩;clear hr2 hf2)
   | fail)
  go_loopw [4] (λv wr=>∃(oo:Option Addr) (oc:Nat) (ns:List Nd) (ac:Nat) (badc:Int),v=.slice oo ns.length oc/\Hi (BI (BlS P a bad) P rb w (a+1) wr (.slice oo ns.length oc) ns.length ns ac badc)) (λ_ wr=>(P.ts.length-atOf rb wr)*2+(if badOf rb wr<0 then 1 else 0))
  case atStart=>exact⟨none,0,[],a+1,bad,rfl,HX0⟩
  obtain⟨oo,oc,ns,ac,badc,rfl,HX⟩:=hrel;obtain⟨f0,f1,f2,f3,z0,z1,z2,z3⟩:=za6 HX.o.2.2.1.row;have hlt:=HX.o.2.2.1.lt
  have HLB:Hi (1+(held [((.slice oo ns.length oc:Value),ns)]).length<=1000000):=by have:=HX.o.2.2.2.2.1.len' HG.o HX.o.2.2.1.le;unfold Hi;rw[FF,List.length_map];omega
  by_cases hb:badc<0
  ·have hdb:decide (badc<0)=true:=dT_ hb
   have HBC:=hid hb
   cases h2:isS P ac badc [125] with
   | true =>
    have HI2:=hid h2;clear h2
    go_wp2_with (first
   |(go_at_call 39;refine mq (zb1 P rb _ ac badc _ HX.o.2.2.1) λw5 hok=>?_;rw[show isS P ac badc (⟨#[125]⟩:ByteArray).toList=true by(rw[ByteArray.toList_eq];exact HI2.o)];have HR5:=hid (HX.o.2.2.1.ok hok);have HK5:=hid hok;clear hok f0 f1 f2 f3 z0 z1 z2 z3 hlt)
   |(go_at_call 71;refine mq (zc5 P rb _ ac badc _ HR5.o) λw6 ⟨hr6,hf6⟩=>?_;have HT:Hi (RI P rb w6 (if isS P ac badc (⟨#[125]⟩:ByteArray).toList then ac+1 else ac) (if isS P ac badc (⟨#[125]⟩:ByteArray).toList then badc else AI P ac badc)/\Fr rb w w6/\NL w6 0 (.slice oo ns.length oc) ns):=⟨hr6,(HX.o.2.2.2.1.trans (Fr.of HK5.o)).trans hf6,(NL.fr (za1 HX.o.1 HK5.o) hf6 (λb hb=>by have h1:=(HX.o.1.lt b hb).1;have h2:=HX.o.2.2.2.2.2;omega)).base⟩;clear hr6 hf6)
   |(go_at_call 72;refine(zc3 _ ⟨0,9,⟨#[]⟩,0,0,(plS P a:Nat)⟩ _ [(.slice oo ns.length oc,ns)] (HD.one (za3 _ _) (za1 HT.o.2.2 ((Ok.refl w6).alloc _))) HLB.o (by simp)).mono ?_;rintro e w7 ⟨v4,rfl,hn4,hok⟩;have HF:Hi (EPs (BkS P a bad) P rb w a bad (.returned v4) w7):=⟨v4,_,_,_,rfl,za7 hn4 (by have:=HT.o.2.1.le;simp;omega),HT.o.1.ok (((Ok.refl w6).alloc _).step hok),HT.o.2.1.trans (Fr.of (((Ok.refl w6).alloc _).step hok)),HX.o.2.2.2.2.1.block HB0.o _ (wf1 _ _ _) (BlS.fin (by rw[ByteArray.toList_eq]) HX.o.2.2.2.2.1.sem (.inr HI2.o))⟩;clear hn4 hok)
   | fail)
    go_ret;exact HF.o
   | false =>
    have HI2:=hid h2;clear h2
    go_wp2_with (first
   |(go_at_call 39;refine mq (zb1 P rb _ ac badc _ HX.o.2.2.1) λw5 hok=>?_;rw[show isS P ac badc (⟨#[125]⟩:ByteArray).toList=false by(rw[ByteArray.toList_eq];exact HI2.o)];have HR5:=hid (HX.o.2.2.1.ok hok);have HK5:=hid hok;clear hok f0 f1 f2 f3 z0 z1 z2 z3 hlt)
   |(go_at_call 41;refine(HS.o ((P.ts.length-ac)*10+2) (by have:=HM.o;have:=HX.o.2.2.2.2.1.le;omega) _ ac badc HR5.o (nR_ _)).mono ?_;rintro e w6 ⟨v6,ms,a2,bad2,rfl,hnl,hri,hfr,hgot⟩;have HQ:Hi (NL w6 w5.heap.size v6 ms/\RI P rb w6 a2 bad2/\Fr rb w5 w6/\Got (StS P ac badc) P ac badc ms a2 bad2):=⟨hnl,hri,hfr,hgot⟩;clear hnl hri hfr hgot)
   |(at_builtin;refine zd8 rfl _ _ rfl w.heap.size _ ns.length ns (by rfl) (NL.fr (za1 HX.o.1 HK5.o) HQ.o.2.2.1 (λb hb=>by have h1:=(HX.o.1.lt b hb).1;have h2:=HX.o.2.2.2.2.2;omega)) w5.heap.size v6 ms (by rfl) HQ.o.1 (by have h1:=HX.o.2.2.2.2.1.len' HG.o HX.o.2.2.1.le;have h2:=HQ.o.2.2.2.len' HG.o HQ.o.2.1.le;omega) (by have h1:=HX.o.2.2.2.1.le;have h2:=HK5.o.le;have h3:=HQ.o.2.2.1.le;omega) ?_;intro v7 w7 hown7 hgrow;have HX7:Hi (BI (BlS P a bad) P rb w (a+1) w7 v7 (ns.length+ms.length) (ns++ms) a2 bad2):=BI.more H.o HX.o HBC.o HK5.o HQ.o.2.2.1 HQ.o.2.1 HQ.o.2.2.2 (BlS.next HX.o.2.2.2.2.1.sem (by have:=HX.o.2.2.2.2.1.le;omega) HBC.o HI2.o HQ.o.2.2.2.sem (HQ.o.2.2.2.on HBC.o) HQ.o.2.2.2.le HQ.o.2.1.le) hown7 hgrow;obtain⟨o7,c7,rfl⟩:=za0 hown7;clear hown7 hgrow)
   | fail)
    go_roundw
    case rel=>exact⟨o7,c7,ns++ms,a2,bad2,by rw[List.length_append],(by have h:=HX7.o;rw[<-List.length_append]at h;exact h)⟩
    case measure =>
     have e1:=HX7.o.2.2.1.atOf;have e2:=HX.o.2.2.1.atOf;have e3:=HX7.o.2.2.1.badOf;have e4:=HX.o.2.2.1.badOf;have h1:=HQ.o.2.2.2.le;have h2:=HQ.o.2.2.2.on HBC.o;have h3:=(zu5 (P:=P) (a:=ac) (bad:=badc));have h4:=HX7.o.2.2.1.le;rw[e1,e2,e3,e4,if_pos HBC.o]
     split
     ·rcases h2 with h2 | h2<;>omega
     omega
  have hdb:decide (badc<0)=false:=dF_ hb;have HNB:=hid hb
  go_wp2_with (first
  |(go_at_call 71;refine mq (zc5 P rb _ ac badc _ HX.o.2.2.1) λw6 ⟨hr6,hf6⟩=>?_;have HT:Hi (RI P rb w6 (if isS P ac badc (⟨#[125]⟩:ByteArray).toList then ac+1 else ac) (if isS P ac badc (⟨#[125]⟩:ByteArray).toList then badc else AI P ac badc)/\Fr rb w w6/\NL w6 0 (.slice oo ns.length oc) ns):=⟨hr6,HX.o.2.2.2.1.trans hf6,(NL.fr (HX.o.1) hf6 (λb hb=>by have h1:=(HX.o.1.lt b hb).1;have h2:=HX.o.2.2.2.2.2;omega)).base⟩;clear hr6 hf6)
  |(go_at_call 72;refine(zc3 _ ⟨0,9,⟨#[]⟩,0,0,(plS P a:Nat)⟩ _ [(.slice oo ns.length oc,ns)] (HD.one (za3 _ _) (za1 HT.o.2.2 ((Ok.refl w6).alloc _))) HLB.o (by simp)).mono ?_;rintro e w7 ⟨v4,rfl,hn4,hok⟩;have HF:Hi (EPs (BkS P a bad) P rb w a bad (.returned v4) w7):=⟨v4,_,_,_,rfl,za7 hn4 (by have:=HT.o.2.1.le;simp;omega),HT.o.1.ok (((Ok.refl w6).alloc _).step hok),HT.o.2.1.trans (Fr.of (((Ok.refl w6).alloc _).step hok)),HX.o.2.2.2.2.1.block HB0.o _ (wf1 _ _ _) (BlS.fin (by rw[ByteArray.toList_eq]) HX.o.2.2.2.2.1.sem (.inl (by have h:=HNB.o;omega)))⟩;clear hn4 hok)
  | fail)
  go_ret;exact HF.o
end
section
open Go.RowKit
structure Acc(P:RP)(a n ac:Nat)(badc:Int)(e:Nat):Prop where
 le:a+1<=ac
 len:n<=8*(ac-(a+1))+(if badc<0 then 0 else 8)+e
theorem Acc.start(P:RP)(a:Nat)(bad:Int):Acc P a 0 (a+1) bad 0:=⟨nR_ _,zL_ _⟩
theorem Acc.take(h:Acc P a n ac badc e)(t:List UInt8):Acc P a n (if isS P ac badc t then ac+1 else ac) (if isS P ac badc t then badc else AI P ac badc) e:=by
 have h1:=h.le;have h2:=h.len
 cases ht:isS P ac badc t with
 | true =>
  simp only[if_true];refine⟨by omega,?_⟩
  split at h2<;>(split<;>omega)
 | false =>
  have:=ze7 P ac badc;simp only[Bool.false_eq_true,if_false];refine⟨by omega,?_⟩;rw[if_neg (by omega)]
  split at h2<;>omega
theorem Acc.name(h:Acc P a n ac badc e):Acc P a n (if CK P ac badc then ac+1 else ac) (if CK P ac badc then badc else AI P ac badc) e:=by
 have h1:=h.le;have h2:=h.len
 cases ht:CK P ac badc with
 | true =>
  simp only[if_true];refine⟨by omega,?_⟩
  split at h2<;>(split<;>omega)
 | false =>
  have:=ze7 P ac badc;simp only[Bool.false_eq_true,if_false];refine⟨by omega,?_⟩;rw[if_neg (by omega)]
  split at h2<;>omega
theorem Acc.expr{S:List Nd->Nat->Int->Prop}{ns:List Nd}(h:Acc P a n ac badc e)(hg:Got S P ac badc ns a2 bad2)(h0:0<=badc->ns=[]):Acc P a (n+ns.length) a2 bad2 e:=by
 have h1:=h.le;have h2:=h.len;have h3:=hg.le;refine⟨by omega,?_⟩;by_cases hb:badc<0
 ·have h4:=hg.len hb
  rw[if_pos hb]at h2
  split at h4<;>(split<;>omega)
 have h5:=hg.off oM;rw[h0 (by omega),h5.2.1,h5.2.2];simpa using h2
theorem Acc.block{S:List Nd->Nat->Int->Prop}{ns:List Nd}(h:Acc P a n ac badc e)(hg:Got S P ac badc ns a2 bad2):Acc P a (n+ns.length) a2 bad2 (e+1):=by
 have h1:=h.le;have h2:=h.len;have h3:=hg.le;refine⟨by omega,?_⟩;by_cases hb:badc<0
 ·have h4:=hg.len hb
  rw[if_pos hb]at h2
  split at h4<;>(split<;>omega)
 have h5:=hg.off oM;rw[h5.2.1,h5.2.2]
 split at h2<;>(split<;>omega)
theorem Acc.got{S:List Nd->Nat->Int->Prop}{nd:Nd}{ps:List (Value×List Nd)}(hb:bad<0)(h:Acc P a n ac badc e)(he:e<=7)(hn:nd.Fit)(hl:(held ps).length=n)(hf:∀x∈held ps,x.Fit)(hs:S (BK nd ps) ac badc):Got S P a bad (BK nd ps) ac badc:=by
 have h1:=h.le;have h2:=h.len;refine⟨by omega,λ_=>.inl oM,λh0=>by omega,λ_=>?_,?_,hs⟩
 ·unfold BK
  rw[List.length_cons,hl]
  split at h2<;>(split<;>omega)
 intro x hx;unfold BK at hx;rw[List.mem_cons]at hx;rcases hx with rfl | hx
 ·exact⟨hn.name,by simp,by simp,hn.num⟩
 exact hf x hx
theorem zg4{S:List Nd->Nat->Int->Prop}{w8 w9:World}{B:Nat}{nd:Nd}{ps:List (Value×List Nd)}{v4:Value}(hf:Fr rb w w8)(hri:RI P rb w8 ac badc)(hb:bad<0)(h:Acc P a n ac badc e)(he:e<=7)(hn:nd.Fit)(hl:(held ps).length=n)(hfit:∀x∈held ps,x.Fit)(hn4:NL w9 B v4 (BK nd ps))(hB:w.heap.size<=B)(hok:Ok w8 w9)(hs:S (BK nd ps) ac badc):EPs S P rb w a bad (.returned v4) w9 :=
 ⟨v4,_,ac,badc,rfl,za7 hn4 hB,hri.ok hok,hf.trans (Fr.of hok),Acc.got hb h he hn hl hfit hs⟩
theorem yg6{S:List Nd->Nat->Int->Prop}{ns:List Nd}(h:Got S P a bad ns a2 bad2):∀x∈held [(v,ns)],x.Fit:=by intro x hx;rw[FF,List.mem_map]at hx;obtain⟨y,hy,rfl⟩:=hx;exact zf0 (h.fit y hy)
theorem yg7(P:RP)(rb:Nat)(w:World)(a:Nat)(bad:Int)(hG:GT P)(h:RI P rb w a bad)(hi2:isS P a bad [105,110,112,117,116]=false)(hi3:isS P a bad [97,115,115,101,114,116]=false)(hi4:isS P a bad [115,107,105,112]=true):Calls Tryz.prog 41 #[pA rb 0] w (EPs (StS P a bad) P rb w a bad):=by
 have H:=hid h;have HG:=hid hG;have HI_2:Hi _:=hi2;have HI_3:Hi _:=hi3;have HI_4:Hi _:=hi4;have HB0:=hid ((zb9 hi4).1);have ha:a<P.ts.length:=(zb9 hi4).2;clear hi2 hi3 hi4;have haw:IntKind.i64.wrap ((a:Int)+1)=((a+1:Nat):Int):=zb3 (by have:=H.o.lim;omega);clear h hG;go_enter Tryz.func41,Tryz.ntmps41
 go_wp2_with (first
  |(go_at_call 69;refine plC H.o λw1 HR1 HK1=>?_)
  |(go_at_call_of 39 ((⟨#[105,110,112,117,116]⟩:ByteArray));refine isC HR1.o HK1.o HI_2.o λw2 HR2 HK2=>?_)
  |(go_at_call_of 39 ((⟨#[97,115,115,101,114,116]⟩:ByteArray));refine isC HR2.o HK2.o HI_3.o λw3 HR3 HK3=>?_)
  |(go_at_call_of 39 ((⟨#[115,107,105,112]⟩:ByteArray));refine isC HR3.o HK3.o HI_4.o λw4 HR4 HK4=>?_;obtain⟨f0,f1,f2,f3,z0,z1,z2,z3⟩:=za6 HR4.o.row;have hlt:=HR4.o.lt)
  |(go_at_call 71;refine mq (zc5 P rb _ (a+1) bad _ (HR4.o.setAt (a+1) ha)) λw20 ⟨hr8,hf8⟩=>?_;have HT:Hi (RI P rb w20 (if isS P (a+1) bad (⟨#[59]⟩:ByteArray).toList then (a+1)+1 else (a+1)) (if isS P (a+1) bad (⟨#[59]⟩:ByteArray).toList then bad else AI P (a+1) bad)/\Fr rb w w20):=⟨hr8,Fr.trans ((Fr.of HK4.o).set 1 _) hf8⟩;clear f0 f1 f2 f3 z0 z1 z2 z3 hlt;clear hr8 hf8)
  |(go_at_call 72;refine(zc3 _ ⟨0,6,⟨#[]⟩,0,0,(plS P a:Nat)⟩ _ [] (HD.none _) (by simp[held]) (by simp)).mono ?_;rintro e w21 ⟨v4,rfl,hn4,hok⟩;have HF:Hi (EPs (StS P a bad) P rb w a bad (.returned v4) w21):=zg4 HT.o.2 HT.o.1 HB0.o (Acc.take (Acc.start P a bad) _) (by decide) (wf1 _ _ _) rfl (λx hx=>by cases hx) hn4 HT.o.2.le hok (StS.skip (by rw[ByteArray.toList_eq]) HI_2.o HI_3.o HI_4.o);clear hn4 hok)
  | fail)
 go_ret;exact HF.o
theorem zf1{b:Bool}{s:ByteArray}(hG:GT P)(hs:s.toList=(if b then txS P a else [])):s.size<=1000000:=by
 cases b with
 | true=>exact zu6 hG (by simpa using hs)
 | false =>
  rw[<-zc2,hs];simp
theorem zW2(P:RP)(rb:Nat)(w:World)(a:Nat)(bad:Int)(hG:GT P)(h:RI P rb w a bad)(hi2:isS P a bad [105,110,112,117,116]=true):Calls Tryz.prog 41 #[pA rb 0] w (EPs (StS P a bad) P rb w a bad):=by
 have H:=hid h;have HG:=hid hG;have HI_2:Hi _:=hi2;have HB0:=hid ((zb9 hi2).1);have ha:a<P.ts.length:=(zb9 hi2).2;clear hi2;have haw:IntKind.i64.wrap ((a:Int)+1)=((a+1:Nat):Int):=zb3 (by have:=H.o.lim;omega);clear h hG;go_enter Tryz.func41,Tryz.ntmps41
 go_wp2_with (first
  |(go_at_call 69;refine plC H.o λw1 HR1 HK1=>?_)
  |(go_at_call_of 39 ((⟨#[105,110,112,117,116]⟩:ByteArray));refine isC HR1.o HK1.o HI_2.o λw2 HR2 HK2=>?_;obtain⟨f0,f1,f2,f3,z0,z1,z2,z3⟩:=za6 HR2.o.row;have hlt:=HR2.o.lt)
  |(go_at_call 70;refine(zi5 P rb _ (a+1) bad (HR2.o.setAt (a+1) ha)).mono ?_;rintro e w10 ⟨s,rfl,hs,hr6,hf6⟩;have HSZ:=hid (zf1 HG.o hs);obtain⟨a6,ha6⟩:=qq ((if CK P (a+1) bad then a+1+1 else a+1));obtain⟨b6,hb6⟩:=qq ((if CK P (a+1) bad then bad else AI P (a+1) bad));rw[<-ha6,<-hb6]at hr6;have HR6:Hi (RI P rb w10 a6 b6/\Fr rb w w10/\Acc P a 0 a6 b6 0):=⟨hr6,((Fr.of HK2.o).set 1 _).trans hf6,(by rw[ha6,hb6];exact(Acc.start P a bad).name)⟩;have HNA:Hi (s=naT P (a+1) bad):=zq8 hs;have HA6:Hi (a6=naA P (a+1) bad/\b6=naB P (a+1) bad):=⟨ha6,hb6⟩;clear hs hr6 hf6 ha6 hb6 f0 f1 f2 f3 z0 z1 z2 z3 hlt)
  |(go_at_call 71;refine mq (zc5 P rb _ a6 b6 _ HR6.o.1) λw20 ⟨hr8,hf8⟩=>?_;have HT:Hi (RI P rb w20 (if isS P a6 b6 (⟨#[59]⟩:ByteArray).toList then a6+1 else a6) (if isS P a6 b6 (⟨#[59]⟩:ByteArray).toList then b6 else AI P a6 b6)/\Fr rb w w20):=⟨hr8,Fr.trans HR6.o.2.1 hf8⟩;clear hr8 hf8)
  |(go_at_call 72;refine(zc3 _ ⟨0,4,s,0,0,(plS P a:Nat)⟩ _ [] (HD.none _) (by simp[held]) (by simp)).mono ?_;rintro e w21 ⟨v4,rfl,hn4,hok⟩;have HF:Hi (EPs (StS P a bad) P rb w a bad (.returned v4) w21):=zg4 HT.o.2 HT.o.1 HB0.o (Acc.take HR6.o.2.2 _) (by decide) ⟨HSZ.o,by simp,by simp,by simp⟩ rfl (λx hx=>by cases hx) hn4 HT.o.2.le hok (StS.input2 (by rw[ByteArray.toList_eq]) HI_2.o HNA.o HA6.o);clear hn4 hok)
  | fail)
 go_ret;exact HF.o
theorem zL5(P:RP)(rb:Nat)(w:World)(a:Nat)(bad:Int)(hG:GT P)(h:RI P rb w a bad)(hi2:isS P a bad [105,110,112,117,116]=false)(hi3:isS P a bad [97,115,115,101,114,116]=true):Calls Tryz.prog 41 #[pA rb 0] w (EPs (StS P a bad) P rb w a bad):=by
 have H:=hid h;have HG:=hid hG;have HI_2:Hi _:=hi2;have HI_3:Hi _:=hi3;have HB0:=hid ((zb9 hi3).1);have ha:a<P.ts.length:=(zb9 hi3).2;clear hi2 hi3;have haw:IntKind.i64.wrap ((a:Int)+1)=((a+1:Nat):Int):=zb3 (by have:=H.o.lim;omega);clear h hG;go_enter Tryz.func41,Tryz.ntmps41
 go_wp2_with (first
  |(go_at_call 69;refine plC H.o λw1 HR1 HK1=>?_)
  |(go_at_call_of 39 ((⟨#[105,110,112,117,116]⟩:ByteArray));refine isC HR1.o HK1.o HI_2.o λw2 HR2 HK2=>?_)
  |(go_at_call_of 39 ((⟨#[97,115,115,101,114,116]⟩:ByteArray));refine isC HR2.o HK2.o HI_3.o λw3 HR3 HK3=>?_;obtain⟨f0,f1,f2,f3,z0,z1,z2,z3⟩:=za6 HR3.o.row;have hlt:=HR3.o.lt)
  |(go_at_call 74;refine(zk5 P rb HG.o _ (a+1) bad 0 (by decide) (HR3.o.setAt (a+1) ha)).mono ?_;rintro e w10 ⟨v3,ms,a6,b6,rfl,hnl,hri,hfr,hgot,h0⟩;obtain⟨bo,cq,rfl⟩:=za0 hnl;have HQ:Hi (NL w10 w.heap.size (.slice bo ms.length cq) ms/\Got (ExS P 0 (a+1) bad) P (a+1) bad ms a6 b6/\ms.length<=65544):=⟨za7 hnl (by have:=HK3.o.le;simpa using this),hgot,hgot.len' HG.o hri.le⟩;have HR6:Hi (RI P rb w10 a6 b6/\Fr rb w w10/\Acc P a (0+ms.length) a6 b6 0):=⟨hri,((Fr.of HK3.o).set 1 _).trans hfr,(Acc.start P a bad).expr hgot h0⟩;clear hnl hri hfr hgot h0 f0 f1 f2 f3 z0 z1 z2 z3 hlt)
  |(go_at_call 71;refine mq (zc5 P rb _ a6 b6 _ HR6.o.1) λw20 ⟨hr8,hf8⟩=>?_;have HT:Hi (RI P rb w20 (if isS P a6 b6 (⟨#[59]⟩:ByteArray).toList then a6+1 else a6) (if isS P a6 b6 (⟨#[59]⟩:ByteArray).toList then b6 else AI P a6 b6)/\Fr rb w w20):=⟨hr8,Fr.trans HR6.o.2.1 hf8⟩;have HN:Hi (NL w20 0 (.slice bo ms.length cq) ms):=(NL.fr HQ.o.1 hf8 (λb hb=>by have h1:=(HQ.o.1.lt b hb).1;have h2:=H.o.lt;omega)).base;clear hr8 hf8)
  |(go_at_call 72;refine(zc3 _ ⟨0,5,⟨#[]⟩,0,0,(plS P a:Nat)⟩ _ [(.slice bo ms.length cq,ms)] (HD.one (za3 _ _) (za1 HN.o ((Ok.refl w20).alloc _))) (by have:=HQ.o.2.2;rw[FF,List.length_map];omega) (by simp)).mono ?_;rintro e w21 ⟨v4,rfl,hn4,hok⟩;have HF:Hi (EPs (StS P a bad) P rb w a bad (.returned v4) w21):=zg4 HT.o.2 HT.o.1 HB0.o (Acc.take HR6.o.2.2 _) (by decide) (wf1 _ _ _) (by rw[FF,List.length_map,Nat.zero_add]) (yg6 HQ.o.2.1) hn4 (by have:=HT.o.2.le;simp;omega) (((Ok.refl w20).alloc _).step hok) (StS.assert (by rw[ByteArray.toList_eq]) HI_2.o HI_3.o HQ.o.2.1.sem);clear hn4 hok)
  | fail)
 go_ret;exact HF.o
end
section
open Go.RowKit
theorem zH1{S S':List Nd->Nat->Int->Prop}{a3 a4:Nat}{bad3 bad4:Int}{ns ms:List Nd}(h:Got S P a bad ns a2 bad2)(h':Got S' P a3 bad3 ms a4 bad4):∀x∈held [(v,ns),(u,ms)],x.Fit:=by
 intro x hx;rw[wb3,List.mem_append,List.mem_map,List.mem_map]at hx;rcases hx with ⟨y,hy,rfl⟩ | ⟨y,hy,rfl⟩
 ·exact zf0 (h.fit y hy)
 exact zf0 (h'.fit y hy)
theorem wm8(v u t:Value)(ns ms ks:List Nd):held [(v,ns),(u,ms),(t,ks)]=ns.map DE++(ms.map DE++ks.map DE):=by simp[held]
theorem yg8{S S' S'':List Nd->Nat->Int->Prop}{a3 a4 a5 a6:Nat}{bad3 bad4 bad5 bad6:Int}{ns ms ks:List Nd}{t:Value}(h:Got S P a bad ns a2 bad2)(h':Got S' P a3 bad3 ms a4 bad4)(h'':Got S'' P a5 bad5 ks a6 bad6):∀x∈held [(v,ns),(u,ms),(t,ks)],x.Fit:=by
 intro x hx;rw[wm8,List.mem_append,List.mem_append,List.mem_map,List.mem_map,List.mem_map]at hx;rcases hx with ⟨y,hy,rfl⟩ | ⟨y,hy,rfl⟩ | ⟨y,hy,rfl⟩
 ·exact zf0 (h.fit y hy)
 ·exact zf0 (h'.fit y hy)
 exact zf0 (h''.fit y hy)
theorem yr8{g:Nat}{t:Value}{ns ms ks:List Nd}(h:w.heap[g]?=some (.cells #[v,u,t] 29 (0,0)))(hn:NL w 0 v ns)(hm:NL w 0 u ms)(hk:NL w 0 t ks):HD w (.slice (sA g 0) 3 3) [(v,ns),(u,ms),(t,ks)] :=
 ⟨⟨rfl,.inr ⟨g,3,_,rfl,zL_ _,h,nR_ _,by decide,rfl,rfl⟩⟩,λp hp=>by
  rw[List.mem_cons,List.mem_cons,List.mem_singleton]at hp;rcases hp with rfl | rfl | rfl
  ·exact hn
  ·exact hm
  exact hk⟩
theorem Acc.on(h:Acc P a n ac badc e):Acc P a n (ac+1) badc e:=by
 have h1:=h.le;have h2:=h.len;refine⟨by omega,?_⟩
 split at h2<;>(split<;>omega)
theorem NL.up{w1 w2:World}{ns:List Nd}(h:NL w1 w.heap.size v ns)(hf:Fr rb w1 w2)(hlt:rb<w.heap.size):NL w2 w.heap.size v ns:=NL.fr h hf (λb hb=>by have h1:=(h.lt b hb).1;omega)
theorem zW3(P:RP)(rb:Nat)(w:World)(a:Nat)(bad:Int)(m:Nat)(hBl:∀k,k<m->wd2 P rb k)(hm:(P.ts.length-a)*10+2<=m)(hG:GT P)(h:RI P rb w a bad)(hi2:isS P a bad [105,110,112,117,116]=false)(hi3:isS P a bad [97,115,115,101,114,116]=false)(hi4:isS P a bad [115,107,105,112]=false)(hi5:isS P a bad [119,104,105,108,101]=true):Calls Tryz.prog 41 #[pA rb 0] w (EPs (StS P a bad) P rb w a bad):=by
 have H:=hid h;have HG:=hid hG;have HBL:=hid hBl;have HM:=hid hm;clear hBl hm;have HI_2:Hi _:=hi2;have HI_3:Hi _:=hi3;have HI_4:Hi _:=hi4;have HI_5:Hi _:=hi5;have HB0:=hid ((zb9 hi5).1);have ha:a<P.ts.length:=(zb9 hi5).2;clear hi2 hi3 hi4 hi5;have haw:IntKind.i64.wrap ((a:Int)+1)=((a+1:Nat):Int):=zb3 (by have:=H.o.lim;omega);clear h hG;go_enter Tryz.func41,Tryz.ntmps41
 go_wp2_with (first
  |(go_at_call 69;refine plC H.o λw1 HR1 HK1=>?_)
  |(go_at_call_of 39 ((⟨#[105,110,112,117,116]⟩:ByteArray));refine isC HR1.o HK1.o HI_2.o λw2 HR2 HK2=>?_)
  |(go_at_call_of 39 ((⟨#[97,115,115,101,114,116]⟩:ByteArray));refine isC HR2.o HK2.o HI_3.o λw3 HR3 HK3=>?_)
  |(go_at_call_of 39 ((⟨#[115,107,105,112]⟩:ByteArray));refine isC HR3.o HK3.o HI_4.o λw4 HR4 HK4=>?_)
  |(go_at_call_of 39 ((⟨#[119,104,105,108,101]⟩:ByteArray));refine isC HR4.o HK4.o HI_5.o λw5 HR5 HK5=>?_;obtain⟨f0,f1,f2,f3,z0,z1,z2,z3⟩:=za6 HR5.o.row;have hlt:=HR5.o.lt)
  |(go_at_call 74;refine(zk5 P rb HG.o _ (a+1) bad 0 (by decide) (HR5.o.setAt (a+1) ha)).mono ?_;rintro e w10 ⟨v3,ms,a6,b6,rfl,hnl,hri,hfr,hgot,h0⟩;obtain⟨bo,cq,rfl⟩:=za0 hnl;have HQ:Hi (NL w10 w.heap.size (.slice bo ms.length cq) ms/\Got (ExS P 0 (a+1) bad) P (a+1) bad ms a6 b6/\ms.length<=65544):=⟨za7 hnl (by have:=HK5.o.le;simpa using this),hgot,hgot.len' HG.o hri.le⟩;have HR6:Hi (RI P rb w10 a6 b6/\Fr rb w w10/\Acc P a (0+ms.length) a6 b6 0):=⟨hri,((Fr.of HK5.o).set 1 _).trans hfr,(Acc.start P a bad).expr hgot h0⟩;clear hnl hri hfr hgot h0 f0 f1 f2 f3 z0 z1 z2 z3 hlt)
  |(go_at_call 75;refine(HBL.o ((P.ts.length-a6)*10+5) (by have:=HM.o;have:=HR6.o.2.2.le;omega) _ a6 b6 HR6.o.1 (nR_ _)).mono ?_;rintro e w11 ⟨v5,ks,a7,b7,rfl,hnl,hri,hfr,hgot⟩;obtain⟨ko,kq,rfl⟩:=za0 hnl;have HS:Hi (NL w11 w.heap.size (.slice ko ks.length kq) ks/\Got (BkS P a6 b6) P a6 b6 ks a7 b7/\ks.length<=65544/\NL w11 w.heap.size (.slice bo ms.length cq) ms):=⟨za7 hnl HR6.o.2.1.le,hgot,hgot.len' HG.o hri.le,NL.up HQ.o.1 hfr H.o.lt⟩;have HR7:Hi (RI P rb w11 a7 b7/\Fr rb w w11/\Acc P a (0+ms.length+ks.length) a7 b7 1):=⟨hri,HR6.o.2.1.trans hfr,HR6.o.2.2.block hgot⟩;clear hnl hri hfr hgot)
  |(go_at_call 72;refine(zc3 _ ⟨0,8,⟨#[]⟩,0,0,(plS P a:Nat)⟩ _ [(.slice bo ms.length cq,ms),(.slice ko ks.length kq,ks)] (zG9 (za3 _ _) (za1 HS.o.2.2.2.base ((Ok.refl w11).alloc _)) (za1 HS.o.1.base ((Ok.refl w11).alloc _))) (by have:=HQ.o.2.2;have:=HS.o.2.2.1;rw[wb3,List.length_append,List.length_map,List.length_map];omega) (by simp)).mono ?_;rintro e w21 ⟨v4,rfl,hn4,hok⟩;have HF:Hi (EPs (StS P a bad) P rb w a bad (.returned v4) w21):=zg4 HR7.o.2.1 HR7.o.1 HB0.o HR7.o.2.2 (by decide) (wf1 _ _ _) (by rw[wb3,List.length_append,List.length_map,List.length_map,Nat.zero_add]) (zH1 HQ.o.2.1 HS.o.2.1) hn4 (by have:=(HR7.o.2.1).le;simp;omega) (((Ok.refl w11).alloc _).step hok) (StS.while ha HI_2.o HI_3.o HI_4.o HI_5.o HQ.o.2.1.sem HQ.o.2.1.le HS.o.2.1.sem);clear hn4 hok)
  | fail)
 go_ret;exact HF.o
theorem yA7(P:RP)(rb:Nat)(w:World)(a:Nat)(bad:Int)(m:Nat)(hBl:∀k,k<m->wd2 P rb k)(hm:(P.ts.length-a)*10+2<=m)(hG:GT P)(h:RI P rb w a bad)(hi2:isS P a bad [105,110,112,117,116]=false)(hi3:isS P a bad [97,115,115,101,114,116]=false)(hi4:isS P a bad [115,107,105,112]=false)(hi5:isS P a bad [119,104,105,108,101]=false)(hi6:isS P a bad [105,102]=true):Calls Tryz.prog 41 #[pA rb 0] w (EPs (StS P a bad) P rb w a bad):=by
 have H:=hid h;have HG:=hid hG;have HBL:=hid hBl;have HM:=hid hm;clear hBl hm;have HI_2:Hi _:=hi2;have HI_3:Hi _:=hi3;have HI_4:Hi _:=hi4;have HI_5:Hi _:=hi5;have HI_6:Hi _:=hi6;have HB0:=hid ((zb9 hi6).1);have ha:a<P.ts.length:=(zb9 hi6).2;clear hi2 hi3 hi4 hi5 hi6;have haw:IntKind.i64.wrap ((a:Int)+1)=((a+1:Nat):Int):=zb3 (by have:=H.o.lim;omega);clear h hG;go_enter Tryz.func41,Tryz.ntmps41
 go_wp2_with (first
  |(go_at_call 69;refine plC H.o λw1 HR1 HK1=>?_)
  |(go_at_call_of 39 ((⟨#[105,110,112,117,116]⟩:ByteArray));refine isC HR1.o HK1.o HI_2.o λw2 HR2 HK2=>?_)
  |(go_at_call_of 39 ((⟨#[97,115,115,101,114,116]⟩:ByteArray));refine isC HR2.o HK2.o HI_3.o λw3 HR3 HK3=>?_)
  |(go_at_call_of 39 ((⟨#[115,107,105,112]⟩:ByteArray));refine isC HR3.o HK3.o HI_4.o λw4 HR4 HK4=>?_)
  |(go_at_call_of 39 ((⟨#[119,104,105,108,101]⟩:ByteArray));refine isC HR4.o HK4.o HI_5.o λw5 HR5 HK5=>?_)
  |(go_at_call_of 39 ((⟨#[105,102]⟩:ByteArray));refine isC HR5.o HK5.o HI_6.o λw6 HR6 HK6=>?_;obtain⟨f0,f1,f2,f3,z0,z1,z2,z3⟩:=za6 HR6.o.row;have hlt:=HR6.o.lt)
  |(go_at_call 74;refine(zk5 P rb HG.o _ (a+1) bad 0 (by decide) (HR6.o.setAt (a+1) ha)).mono ?_;rintro e w10 ⟨v3,ms,a6,b6,rfl,hnl,hri,hfr,hgot,h0⟩;obtain⟨bo,cq,rfl⟩:=za0 hnl;have HQ:Hi (NL w10 w.heap.size (.slice bo ms.length cq) ms/\Got (ExS P 0 (a+1) bad) P (a+1) bad ms a6 b6/\ms.length<=65544):=⟨za7 hnl (by have:=HK6.o.le;simpa using this),hgot,hgot.len' HG.o hri.le⟩;have HR6:Hi (RI P rb w10 a6 b6/\Fr rb w w10/\Acc P a (0+ms.length) a6 b6 0):=⟨hri,((Fr.of HK6.o).set 1 _).trans hfr,(Acc.start P a bad).expr hgot h0⟩;clear hnl hri hfr hgot h0 f0 f1 f2 f3 z0 z1 z2 z3 hlt)
  |(go_at_call 75;refine(HBL.o ((P.ts.length-a6)*10+5) (by have:=HM.o;have:=HR6.o.2.2.le;omega) _ a6 b6 HR6.o.1 (nR_ _)).mono ?_;rintro e w11 ⟨v5,ks,a7,b7,rfl,hnl,hri,hfr,hgot⟩;obtain⟨ko,kq,rfl⟩:=za0 hnl;have HS:Hi (NL w11 w.heap.size (.slice ko ks.length kq) ks/\Got (BkS P a6 b6) P a6 b6 ks a7 b7/\ks.length<=65544/\NL w11 w.heap.size (.slice bo ms.length cq) ms):=⟨za7 hnl HR6.o.2.1.le,hgot,hgot.len' HG.o hri.le,NL.up HQ.o.1 hfr H.o.lt⟩;have HR7:Hi (RI P rb w11 a7 b7/\Fr rb w w11/\Acc P a (0+ms.length+ks.length) a7 b7 1):=⟨hri,HR6.o.2.1.trans hfr,HR6.o.2.2.block hgot⟩;clear hnl hri hfr hgot)
  | fail)
 cases hel:isS P a7 b7 [101,108,115,101] with
 | false =>
  have HEL:=hid hel;clear hel;refine mq (zb1 P rb _ a7 b7 _ HR7.o.1) λw12 hok=>?_;rw[show isS P a7 b7 (⟨#[101,108,115,101]⟩:ByteArray).toList=false by(rw[ByteArray.toList_eq];exact HEL.o)];have HR8:Hi (RI P rb w12 a7 b7/\Fr rb w w12/\NL w12 w.heap.size (.slice bo ms.length cq) ms/\NL w12 w.heap.size (.slice ko ks.length kq) ks):=⟨HR7.o.1.ok hok,HR7.o.2.1.trans (Fr.of hok),za1 HS.o.2.2.2 hok,za1 HS.o.1 hok⟩;clear hok
  go_wp2_with (first
   |(go_at_call 72;refine(zc3 _ ⟨0,7,⟨#[]⟩,0,0,(plS P a:Nat)⟩ _ [(.slice bo ms.length cq,ms),(.slice ko ks.length kq,ks)] (zG9 (za3 _ _) (za1 HR8.o.2.2.1.base ((Ok.refl w12).alloc _)) (za1 HR8.o.2.2.2.base ((Ok.refl w12).alloc _))) (by have:=HQ.o.2.2;have:=HS.o.2.2.1;rw[wb3,List.length_append,List.length_map,List.length_map];omega) (by simp)).mono ?_;rintro e w21 ⟨v4,rfl,hn4,hok⟩;have HF:Hi (EPs (StS P a bad) P rb w a bad (.returned v4) w21):=zg4 HR8.o.2.1 HR8.o.1 HB0.o HR7.o.2.2 (by decide) (wf1 _ _ _) (by rw[wb3,List.length_append,List.length_map,List.length_map,Nat.zero_add]) (zH1 HQ.o.2.1 HS.o.2.1) hn4 (by have:=(HR8.o.2.1).le;simp;omega) (((Ok.refl w12).alloc _).step hok) (StS.ifs ha HI_2.o HI_3.o HI_4.o HI_5.o HI_6.o HQ.o.2.1.sem HQ.o.2.1.le HS.o.2.1.sem HEL.o);clear hn4 hok)
   | fail)
  go_ret;exact HF.o
 | true =>
  have HEL:=hid hel;clear hel;have ha7:a7<P.ts.length:=(zb9 HEL.o).2;have haw7:IntKind.i64.wrap ((a7:Int)+1)=((a7+1:Nat):Int):=zb3 (by have:=H.o.lim;omega);refine mq (zb1 P rb _ a7 b7 _ HR7.o.1) λw12 hok=>?_;rw[show isS P a7 b7 (⟨#[101,108,115,101]⟩:ByteArray).toList=true by(rw[ByteArray.toList_eq];exact HEL.o)];have HR8:Hi (RI P rb w12 a7 b7/\Fr rb w w12/\NL w12 w.heap.size (.slice bo ms.length cq) ms/\NL w12 w.heap.size (.slice ko ks.length kq) ks):=⟨HR7.o.1.ok hok,HR7.o.2.1.trans (Fr.of hok),za1 HS.o.2.2.2 hok,za1 HS.o.1 hok⟩;obtain⟨f0,f1,f2,f3,z0,z1,z2,z3⟩:=za6 HR8.o.1.row;have hlt:=HR8.o.1.lt;clear hok
  go_wp2_with (first
   |(go_at_call 75;refine(HBL.o ((P.ts.length-(a7+1))*10+5) (by have:=HM.o;have:=HR7.o.2.2.le;omega) _ (a7+1) b7 (HR8.o.1.setAt (a7+1) ha7) (Nat.le_refl _)).mono ?_;rintro e w13 ⟨v6,js,a8,b8,rfl,hnl,hri,hfr,hgot⟩;obtain⟨jo,jq,rfl⟩:=za0 hnl;have HU:Hi (NL w13 w.heap.size (.slice jo js.length jq) js/\Got (BkS P (a7+1) b7) P (a7+1) b7 js a8 b8/\js.length<=65544/\NL w13 w.heap.size (.slice bo ms.length cq) ms/\NL w13 w.heap.size (.slice ko ks.length kq) ks):=⟨za7 hnl (by have:=HR8.o.2.1.le;simpa using this),hgot,hgot.len' HG.o hri.le,NL.up HR8.o.2.2.1 (((Fr.refl rb w12).set 1 _).trans hfr) H.o.lt,NL.up HR8.o.2.2.2 (((Fr.refl rb w12).set 1 _).trans hfr) H.o.lt⟩;have HR9:Hi (RI P rb w13 a8 b8/\Fr rb w w13/\Acc P a (0+ms.length+ks.length+js.length) a8 b8 2):=⟨hri,(HR8.o.2.1.set 1 _).trans hfr,HR7.o.2.2.on.block hgot⟩;clear hnl hri hfr hgot f0 f1 f2 f3 z0 z1 z2 z3 hlt)
   |(go_at_call 72;refine(zc3 _ ⟨0,7,⟨#[]⟩,0,0,(plS P a:Nat)⟩ _ [(.slice bo ms.length cq,ms),(.slice ko ks.length kq,ks),(.slice jo js.length jq,js)] (yr8 (za3 _ _) (za1 HU.o.2.2.2.1.base ((Ok.refl w13).alloc _)) (za1 HU.o.2.2.2.2.base ((Ok.refl w13).alloc _)) (za1 HU.o.1.base ((Ok.refl w13).alloc _))) (by have:=HQ.o.2.2;have:=HS.o.2.2.1;have:=HU.o.2.2.1;rw[wm8,List.length_append,List.length_append,List.length_map,List.length_map,List.length_map];omega) (by simp)).mono ?_;rintro e w21 ⟨v4,rfl,hn4,hok⟩;have HF:Hi (EPs (StS P a bad) P rb w a bad (.returned v4) w21):=zg4 HR9.o.2.1 HR9.o.1 HB0.o HR9.o.2.2 (by decide) (wf1 _ _ _) (by rw[wm8,List.length_append,List.length_append,List.length_map,List.length_map,List.length_map];omega) (yg8 HQ.o.2.1 HS.o.2.1 HU.o.2.1) hn4 (by have:=HR9.o.2.1.le;simp;omega) (((Ok.refl w13).alloc _).step hok) (StS.ifelse ha HI_2.o HI_3.o HI_4.o HI_5.o HI_6.o HQ.o.2.1.sem HQ.o.2.1.le HS.o.2.1.sem HS.o.2.1.le HEL.o HU.o.2.1.sem);clear hn4 hok)
   | fail)
  go_ret;exact HF.o
end
section
open Go.RowKit
theorem zL6(P:RP)(rb:Nat)(w:World)(a:Nat)(bad:Int)(hG:GT P)(h:RI P rb w a bad)(hi2:isS P a bad [105,110,112,117,116]=false)(hi3:isS P a bad [97,115,115,101,114,116]=false)(hi4:isS P a bad [115,107,105,112]=false)(hi5:isS P a bad [119,104,105,108,101]=false)(hi6:isS P a bad [105,102]=false)(hn:CK P a bad=false):Calls Tryz.prog 41 #[pA rb 0] w (EPs (StS P a bad) P rb w a bad):=by
 have H:=hid h;have HG:=hid hG;have HI_2:Hi _:=hi2;have HI_3:Hi _:=hi3;have HI_4:Hi _:=hi4;have HI_5:Hi _:=hi5;have HI_6:Hi _:=hi6;clear hi2 hi3 hi4 hi5 hi6;have HN:=hid hn;obtain⟨b0,hb0⟩:=qq (AI P a bad);have HB:Hi (b0=AI P a bad):=hb0;have HPO:Hi (0<=b0):=by rw[hb0];exact ze7 _ _ _
 clear h hG hn hb0;go_enter Tryz.func41,Tryz.ntmps41
 go_wp2_with (first
  |(go_at_call 69;refine plC H.o λw1 HR1 HK1=>?_)
  |(go_at_call_of 39 ((⟨#[105,110,112,117,116]⟩:ByteArray));refine isC HR1.o HK1.o HI_2.o λw2 HR2 HK2=>?_)
  |(go_at_call_of 39 ((⟨#[97,115,115,101,114,116]⟩:ByteArray));refine isC HR2.o HK2.o HI_3.o λw3 HR3 HK3=>?_)
  |(go_at_call_of 39 ((⟨#[115,107,105,112]⟩:ByteArray));refine isC HR3.o HK3.o HI_4.o λw4 HR4 HK4=>?_)
  |(go_at_call_of 39 ((⟨#[119,104,105,108,101]⟩:ByteArray));refine isC HR4.o HK4.o HI_5.o λw5 HR5 HK5=>?_)
  |(go_at_call_of 39 ((⟨#[105,102]⟩:ByteArray));refine isC HR5.o HK5.o HI_6.o λw6 HR6 HK6=>?_)
  |(go_at_call 70;refine(zi5 P rb _ a bad HR6.o).mono ?_;rintro e w10 ⟨s,rfl,hs,hr6,hf6⟩;have HSZ:=hid (zf1 HG.o hs);have HNA:Hi (s=naT P a bad):=zq8 hs;rw[HN.o]at hr6;simp only[Bool.false_eq_true,if_false]at hr6;rw[<-HB.o]at hr6;have HT1:Hi (RI P rb w10 a b0/\Fr rb w w10):=⟨hr6,(Fr.of HK6.o).trans hf6⟩;clear hs hr6 hf6)
  |(go_at_call_of 39 ((⟨#[91]⟩:ByteArray));refine mq (zb1 P rb _ a b0 _ HT1.o.1) λw11 hok=>?_;rw[zB2 HPO.o];have HT2:Hi (RI P rb w11 a b0/\Fr rb w w11):=⟨HT1.o.1.ok hok,HT1.o.2.trans (Fr.of hok)⟩;clear hok)
  |(go_at_call_of 71 ((⟨#[58,61]⟩:ByteArray));refine mq (zc5 P rb _ a b0 _ HT2.o.1) λw12 ⟨hr,hf⟩=>?_;rw[zB2 HPO.o,zj7 HPO.o]at hr;simp only[Bool.false_eq_true,if_false]at hr;have HT3:Hi (RI P rb w12 a b0/\Fr rb w w12):=⟨hr,HT2.o.2.trans hf⟩;clear hr hf)
  | fail)
 refine(zk5 P rb HG.o _ a b0 0 dC HT3.o.1).mono ?_;rintro e w13 ⟨v3,ms,a6,b6,rfl,hnl,hri,hfr,hgot,h0⟩;have e1:=(hgot.off HPO.o).2.1;have e2:=(hgot.off HPO.o).2.2;have e3:=h0 HPO.o;have HEX:Hi (exA P a b0=([],a,b0)):=by have:=hgot.sem.all;rw[e1,e2,e3]at this;exact this
 rw[e1,e2]at hri;rw[e3]at hnl;obtain⟨bo,cq,rfl⟩:=za0 hnl;have HT4:Hi (RI P rb w13 a b0/\Fr rb w w13):=⟨hri,HT3.o.2.trans hfr⟩;have HNB:=hid (za7 hnl HT3.o.2.le);clear hnl hri hfr hgot h0 e1 e2 e3
 go_wp2_with (first
  |(go_at_call_of 71 ((⟨#[59]⟩:ByteArray));refine mq (zc5 P rb _ a b0 _ HT4.o.1) λw14 ⟨hr,hf⟩=>?_;rw[zB2 HPO.o,zj7 HPO.o]at hr;simp only[Bool.false_eq_true,if_false]at hr;have HT5:Hi (RI P rb w14 a b0/\Fr rb w w14):=⟨hr,HT4.o.2.trans hf⟩;have HNC:=hid (NL.up HNB.o hf H.o.lt);clear hr hf)
  |(go_at_call 72;refine(zc3 _ ⟨0,2,s,0,0,(plS P a:Nat)⟩ _ [(.slice bo 0 cq,[])] (HD.one (za3 _ _) (za1 HNC.o.base ((Ok.refl w14).alloc _))) (by simp[held]) (by simp)).mono ?_;rintro e w21 ⟨v4,rfl,hn4,hok⟩;have HF:Hi (EPs (StS P a bad) P rb w a bad (.returned v4) w21):=⟨v4,_,a,b0,rfl,za7 hn4 (by have:=HT5.o.2.le;simp;omega),HT5.o.1.ok (((Ok.refl w14).alloc _).step hok),HT5.o.2.trans (Fr.of (((Ok.refl w14).alloc _).step hok)),Got.badBlock HPO.o (λh0=>by rw[HB.o];exact zj7 h0) ⟨HSZ.o,by simp,by simp,by simp⟩ (StS.noname ⟨HI_2.o,HI_3.o,HI_4.o,HI_5.o,HI_6.o⟩ HN.o HNA.o HB.o HPO.o HEX.o)⟩;clear hn4 hok)
  | fail)
 go_ret;exact HF.o
end
end Go.Proofs.YtpongdpnbclchaaGreatDoor
