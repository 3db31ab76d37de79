import Derived.Test.YtenoopfeplalnaaGreatDoorKLs
set_option maxHeartbeats 8000000
set_option linter.all false
namespace Go.Proofs.YtenoopfeplalnaaGreatDoor
section
open Go.RowKit
theorem yf7 (P:RP) (rb m:Nat) (hG:GT P) (hE:∀ k,k<m->ExprOK P rb k):AtomOK P rb m:=by
 intro w a bad h hm
 by_cases hb:bad<0
 ·by_cases ha:a<P.ts.length
  ·have hx:P.ts[a]?=some P.ts[a]:=List.getElem?_eq_getElem ha
   by_cases hk:P.ts[a].1=1
   ·exact yq4 P rb w a bad hG h hb _ hx hk
   ·cases h2:isS P a bad [116,114,117,101] with
    | true=>exact yf3 P rb w a bad hG m hE hm h hb _ hx hk h2
    | false =>
     cases h3:isS P a bad [102,97,108,115,101] with
     | true=>exact zT7 P rb w a bad hG m hE hm h hb _ hx hk h2 h3
     | false =>
      cases h4:isS P a bad [40] with
      | true=>exact zT8 P rb w a bad hG m hE hm h hb _ hx hk h2 h3 h4
      | false =>
       cases hn:namS P a bad with
       | false=>exact yf4 P rb w a bad hG m hE hm h hb _ hx hk h2 h3 h4 hn
       | true =>
        cases h8:isS P (a+1) bad [91] with
        | false=>exact yf5 P rb w a bad hG m hE hm h hb _ hx hk h2 h3 h4 hn h8
        | true=>exact yf6 P rb w a bad hG m hE hm h hb _ hx hk h2 h3 h4 hn h8
  ·exact zP6 P rb w a bad h (.inr ha)
 ·exact zP6 P rb w a bad h (.inl hb)
theorem yq6 (P:RP) (rb:Nat) (hG:GT P) (m:Nat):UnaryOK P rb m/\AtomOK P rb m/\ExprOK P rb m:=by
 induction m using Nat.strongRecOn with
 | ind m ih =>
  have hU:=fun k hk=>(ih k hk).1
  have hA:=fun k hk=>(ih k hk).2.1
  have hE:=fun k hk=>(ih k hk).2.2
  exact ⟨zT6 P rb m hG hU hA,yf7 P rb m hG hE,yf1 P rb m hG hU hE⟩
theorem zk3 (P:RP) (rb:Nat) (hG:GT P) (w:World) (a:Nat) (bad:Int) (row:Nat) (hrow:row<=5) (h:RI P rb w a bad) :
  Calls Tryz.prog 60 #[.pointer (some ⟨rb,0,none⟩),.int .i64 (row:Nat)] w (EPx (ExS P row a bad) P rb w a bad) :=
 (yq6 P rb hG _).2.2 w a bad row hrow h (Nat.le_refl _)
end
section
open Go.RowKit
def EPs (S:List Nd->Nat->Int->Prop) (P:RP) (rb:Nat) (w:World) (a:Nat) (bad:Int) (e:Ending) (w':World):Prop :=
 ∃ v ns a' bad',e=.returned v/\NL w' w.heap.size v ns/\RI P rb w' a' bad'/\Fr rb w w'/\Got S P a bad ns a' bad'
def StmtOK (P:RP) (rb m:Nat):Prop:=∀ w a bad,RI P rb w a bad->(P.ts.length-a)*10+2<=m->Calls Tryz.prog 32 #[.pointer (some ⟨rb,0,none⟩)] w (EPs (StS P a bad) P rb w a bad)
def BlockOK (P:RP) (rb m:Nat):Prop:=∀ w a bad,RI P rb w a bad->(P.ts.length-a)*10+5<=m->Calls Tryz.prog 61 #[.pointer (some ⟨rb,0,none⟩)] w (EPs (BkS P a bad) P rb w a bad)
def badOf (rb:Nat) (w:World):Int:=match w.cell? ⟨rb,3,none⟩ with | some v=>intOf v | none=>0
theorem RI.badOf {P:RP} {rb:Nat} {w:World} {a:Nat} {bad:Int} (h:RI P rb w a bad):badOf rb w=bad:=by
 unfold Go.Proofs.YtenoopfeplalnaaGreatDoor.badOf
 rw [(za7 h.row).2.2.2.1]
 simp [intOf]
structure Grow (S:List Nd->Nat->Int->Prop) (P:RP) (a:Nat) (ns:List Nd) (a':Nat) (bad':Int):Prop where
 le:a<=a'
 len:ns.length<=8*(a'-a)+(if bad'<0 then 0 else 8)
 fit:∀ n∈ns,n.Fit
 sem:S ns a' bad'
theorem Grow.zero {S:List Nd->Nat->Int->Prop} (P:RP) (a:Nat) (bad:Int) (hs:S [] a bad):Grow S P a [] a bad:=⟨Nat.le_refl _,Nat.zero_le _,fun n hn=>(by cases hn),hs⟩
theorem Grow.more {S S':List Nd->Nat->Int->Prop} {P:RP} {a ac a2:Nat} {badc bad2:Int} {ns ms:List Nd} (h:Grow S P a ns ac badc) (hb:badc<0) (hg:Got S' P ac badc ms a2 bad2) (hs:S (ns++ms) a2 bad2):Grow S P a (ns++ms) a2 bad2:=by
 have h1:=h.le
 have h2:=hg.le
 have h3:=h.len
 have h4:=hg.len hb
 rw [if_pos hb] at h3
 refine ⟨by omega,?_,?_,hs⟩
 ·rw [List.length_append]
  split at h4<;>(split<;>omega)
 ·intro n hn
  rw [List.mem_append] at hn
  rcases hn with hn | hn
  ·exact h.fit n hn
  ·exact hg.fit n hn
theorem Grow.len' {S:List Nd->Nat->Int->Prop} {P:RP} {a ac:Nat} {badc:Int} {ns:List Nd} (h:Grow S P a ns ac badc) (hG:GT P) (ha:ac<=P.ts.length):ns.length<=65544:=by
 have:=hG.1
 have h1:=h.len
 split at h1<;>omega
theorem Grow.block {S S':List Nd->Nat->Int->Prop} {P:RP} {a ac:Nat} {bad badc:Int} {ns:List Nd} {n:Nd} {v:Value} (hb:bad<0) (h:Grow S P (a+1) ns ac badc) (t:List UInt8) (hn:n.Fit) (hs:S' (nodeS n [(v,ns)]) (if isS P ac badc t then ac+1 else ac) (if isS P ac badc t then badc else failS P ac badc)):Got S' P a bad (nodeS n [(v,ns)]) (if isS P ac badc t then ac+1 else ac) (if isS P ac badc t then badc else failS P ac badc):=by
 have h1:=h.le
 have h2:=h.len
 have hfit:∀ x∈nodeS n [(v,ns)],x.Fit:=by
  intro x hx
  unfold nodeS at hx
  rw [held1,List.mem_cons,List.mem_map] at hx
  rcases hx with rfl | ⟨y,hy,rfl⟩
  ·exact ⟨hn.name,by simp,by simp,hn.num⟩
  ·exact zf1 (h.fit y hy)
 have hlen:(nodeS n [(v,ns)]).length=ns.length+1:=by unfold nodeS;rw [held1,List.length_cons,List.length_map]
 revert hs
 cases ht:isS P ac badc t with
 | true =>
  have:=(zb9 ht).1
  simp only [if_true]
  intro hs
  refine ⟨by omega,fun _=>.inl (by omega),fun h0=>by omega,fun _=>?_,hfit,hs⟩
  rw [hlen]
  rw [if_pos this] at h2 ⊢;omega
 | false =>
  have:=ze7 P ac badc
  simp only [Bool.false_eq_true,if_false]
  intro hs
  refine ⟨by omega,fun _=>.inl (by omega),fun h0=>by omega,fun _=>?_,hfit,hs⟩
  rw [hlen,if_neg (by omega)]
  split at h2<;>omega
theorem Got.badBlock {S:List Nd->Nat->Int->Prop} {P:RP} {a:Nat} {bad b0:Int} {n:Nd} {v:Value} (hb:0<=b0) (h:0<=bad->b0=bad) (hn:n.Fit) (hs:S (nodeS n [(v,[])]) a b0):Got S P a bad (nodeS n [(v,[])]) a b0:=by
 have hlen:(nodeS n [(v,[])]).length=1:=by unfold nodeS;rw [held1];rfl
 refine ⟨Nat.le_refl _,fun _=>.inr hb,fun h0=>⟨by omega,rfl,h h0⟩,fun _=>?_,?_,hs⟩
 ·rw [hlen,if_neg (by omega)];omega
 ·intro x hx
  unfold nodeS at hx
  rw [held1,List.mem_cons] at hx
  rcases hx with rfl | hx
  ·exact ⟨hn.name,by simp,by simp,hn.num⟩
  ·cases hx
theorem zA6 {P:RP} {a:Nat} {bad:Int} (h:0<=bad) (t:List UInt8):isS P a bad t=false:=zt9 (.inl (by omega)) t
theorem zj5 {P:RP} {a:Nat} {bad:Int} (h:0<=bad):failS P a bad=bad:=by unfold failS;rw [if_neg (by omega)]
def BI (S:List Nd->Nat->Int->Prop) (P:RP) (rb:Nat) (w:World) (a:Nat) (wr:World) (v:Value) (k:Nat) (ns:List Nd) (ac:Nat) (badc:Int):Prop :=
 wr.ownsRow w.heap.size 73 6 v k (ndL ns)/\k=ns.length/\RI P rb wr ac badc/\Fr rb w wr/\Grow S P a ns ac badc/\rb<w.heap.size
theorem BI.more {S S':List Nd->Nat->Int->Prop} {P:RP} {a0:Nat} {rb:Nat} {w wr w1 w2 w4:World} {a ac a2 k:Nat} {badc bad2:Int} {ns ms:List Nd} {v v':Value} {bad:Int} (hH:RI P rb w a bad) (h:BI S P rb w a0 wr v k ns ac badc) (hb:badc<0) (hk:Ok wr w1) (hfr:Fr rb w1 w2) (hri:RI P rb w2 a2 bad2) (hg:Got S' P ac badc ms a2 bad2) (hs:S (ns++ms) a2 bad2) (ho:w4.ownsRow w.heap.size 73 6 v' (k+ms.length) (ndL (ns++ms))) (hgr:w2.grownBy w4 v.ownBlock):BI S P rb w a0 w4 v' (k+ms.length) (ns++ms) a2 bad2:=by
 have hlt:=h.2.2.2.2.2
 have hne:∀ b,v.ownBlock=some b->b≠rb:=fun b hb=>by have:=(h.1.lt b hb).1;omega
 have h1:Fr rb w w2:=(h.2.2.2.1.trans (Fr.of hk)).trans hfr
 have hblk:∀ b,b<w.heap.size->w4.heap[b]?=w2.heap[b]?:=fun b hb'=>hgr.block b (Nat.lt_of_lt_of_le hb' h1.le) (fun e=>by have:=(h.1.lt b e.symm).1;omega)
 refine ⟨ho,by rw [List.length_append,h.2.1],⟨(hblk rb hlt).trans hri.row,zb4 hri.own (fun b hb'=>hblk b (hH.own.lt b hb').2),hri.tk,hri.ne,hri.le,hri.lim⟩,⟨hgr.os.trans h1.os,hgr.tape.trans h1.tape,hgr.output.trans h1.output,Nat.le_trans h1.size hgr.size,fun b hb' hn=>(hblk b hb').trans (h1.block b hb' hn)⟩,h.2.2.2.2.1.more hb hg hs,hlt⟩
set_option maxRecDepth 100000 in
theorem zT9 (P:RP) (rb m:Nat) (hG:GT P) (hS:∀ k,k<m->StmtOK P rb k):BlockOK P rb m:=by
 intro w a bad h hm
 have H:Hid (RI P rb w a bad):=h
 have HS:=hid hS
 have HG:=hid hG
 have HM:Hid ((P.ts.length-a)*10+5<=m):=hm
 clear h hS hG hm
 cases hi:isS P a bad [123] with
 | false =>
  obtain ⟨b0,hb0⟩:∃ b,b=failS P a bad:=⟨_,rfl⟩
  have HI:Hid (isS P a bad [123]=false):=hi
  have HB:Hid (b0=failS P a bad):=hb0
  have hpos:0<=b0:=by rw [hb0];exact ze7 _ _ _
  have hnn:¬b0<0:=by omega
  have hdn:decide (b0<0)=false:=decide_eq_false hnn
  have HPO:Hid (0<=b0):=hpos
  clear hi hb0
  go_enter Tryz.func61,Tryz.ntmps61
  go_wp2_with (first
   | (go_at_call 55;refine (zb8 P rb _ a bad H.out).mono ?_;rintro e w1 ⟨rfl,hok⟩;have HR1:Hid (RI P rb w1 a bad):=H.out.ok hok;have HK1:Hid (Ok w w1):=hok;clear hok)
   | (go_at_call 57;refine (zc6 P rb _ a bad _ HR1.out).mono ?_;rintro e w2 ⟨rfl,hr2,hf2⟩;rw [show isS P a bad (⟨#[123]⟩:ByteArray).toList=false by (rw [ByteArray.toList_eq];exact HI.out)] at hr2;simp only [Bool.false_eq_true,if_false] at hr2;rw [<-HB.out] at hr2;have HR2:Hid (RI P rb w2 a b0):=hr2;have HF2:Hid (Fr rb w w2):=(Fr.of HK1.out).trans hf2;obtain ⟨f0,f1,f2,f3,z0,z1,z2,z3⟩:=za7 HR2.out.row;have hlt:=HR2.out.lt;clear hr2 hf2)
   | fail)
  go_loopw [4] (fun v wr=>v=.slice none 0 0/\wr=w2) (fun _ _=>0)
  case atStart=>exact ⟨rfl,rfl⟩
  case round =>
   obtain ⟨rfl,rfl⟩:=hrel
   go_wp2_with (first
    | (go_at_call 57;refine (zc6 P rb _ a b0 _ HR2.out).mono ?_;rintro e w3 ⟨rfl,hr3,hf3⟩;rw [zA6 HPO.out,zj5 HPO.out] at hr3;simp only [Bool.false_eq_true,if_false] at hr3;have HR3:Hid (RI P rb w3 a b0):=hr3;have HF3:Hid (Fr rb w w3):=HF2.out.trans hf3;clear hr3 hf3 f0 f1 f2 f3 z0 z1 z2 z3 hlt)
    | (go_at_call 58;refine (zc4 _ ⟨0,9,⟨#[]⟩,0,0,(plS P a:Nat)⟩ _ [(.slice none 0 0,[])] (HD.one (za4 _ _) (World.ownsRow_nil _ _ _ _)) (by simp [held]) (by simp)).mono ?_;rintro e w4 ⟨v4,rfl,hn4,hok⟩;have HF:Hid (EPs (BkS P a bad) P rb w a bad (.returned v4) w4):=⟨v4,_,a,b0,rfl,za8 hn4 (by have:=HF3.out.le;simp;omega),HR3.out.ok (((Ok.refl w3).alloc _).step hok),HF3.out.trans (Fr.of (((Ok.refl w3).alloc _).step hok)),Got.badBlock HPO.out (fun h0=>by rw [HB.out];exact zj5 h0) (fit0 _ _ _) (BkS.bad HI.out HB.out HPO.out)⟩;clear hn4 hok)
    | fail)
   go_ret
   exact HF.out
 | true =>
  have HI:Hid (isS P a bad [123]=true):=hi
  have HB0:Hid (bad<0):=(zb9 hi).1
  clear hi
  go_enter Tryz.func61,Tryz.ntmps61
  go_wp2_with (first
   | (go_at_call 55;refine (zb8 P rb _ a bad H.out).mono ?_;rintro e w1 ⟨rfl,hok⟩;have HR1:Hid (RI P rb w1 a bad):=H.out.ok hok;have HK1:Hid (Ok w w1):=hok;clear hok)
   | (go_at_call 57;refine (zc6 P rb _ a bad _ HR1.out).mono ?_;rintro e w2 ⟨rfl,hr2,hf2⟩;rw [show isS P a bad (⟨#[123]⟩:ByteArray).toList=true by (rw [ByteArray.toList_eq];exact HI.out)] at hr2;simp only [if_true] at hr2;have HX0:Hid (BI (BlS P a bad) P rb w (a+1) w2 (.slice none 0 0) 0 [] (a+1) bad):=⟨World.ownsRow_nil _ _ _ _,rfl,hr2,(Fr.of HK1.out).trans hf2,Grow.zero _ _ _ (BlS.begin HI.out (zb9 HI.out).2),H.out.lt⟩;clear hr2 hf2)
   | fail)
  go_loopw [4] (fun v wr=>∃ (oo:Option Addr) (oc:Nat) (ns:List Nd) (ac:Nat) (badc:Int),v=.slice oo ns.length oc/\Hid (BI (BlS P a bad) P rb w (a+1) wr (.slice oo ns.length oc) ns.length ns ac badc)) (fun _ wr=>(P.ts.length-atOf rb wr)*2+(if badOf rb wr<0 then 1 else 0))
  case atStart=>exact ⟨none,0,[],a+1,bad,rfl,HX0⟩
  case round =>
   obtain ⟨oo,oc,ns,ac,badc,rfl,HX⟩:=hrel
   obtain ⟨f0,f1,f2,f3,z0,z1,z2,z3⟩:=za7 HX.out.2.2.1.row
   have hlt:=HX.out.2.2.1.lt
   have HLB:Hid (1+(held [((.slice oo ns.length oc:Value),ns)]).length<=1000000):=by
    have:=HX.out.2.2.2.2.1.len' HG.out HX.out.2.2.1.le
    unfold Hid;rw [held1,List.length_map];omega
   by_cases hb:badc<0
   ·have hdb:decide (badc<0)=true:=decide_eq_true hb
    have HBC:Hid (badc<0):=hb
    cases h2:isS P ac badc [125] with
    | true =>
     have HI2:Hid (isS P ac badc [125]=true):=h2
     clear h2
     go_wp2_with (first
    | (go_at_call 30;refine (zb1 P rb _ ac badc _ HX.out.2.2.1).mono ?_;rintro e w5 ⟨rfl,hok⟩;rw [show isS P ac badc (⟨#[125]⟩:ByteArray).toList=true by (rw [ByteArray.toList_eq];exact HI2.out)];have HR5:Hid (RI P rb w5 ac badc):=HX.out.2.2.1.ok hok;have HK5:Hid (Ok wr w5):=hok;clear hok f0 f1 f2 f3 z0 z1 z2 z3 hlt)
    | (go_at_call 57;refine (zc6 P rb _ ac badc _ HR5.out).mono ?_;rintro e w6 ⟨rfl,hr6,hf6⟩;have HT:Hid (RI P rb w6 (if isS P ac badc (⟨#[125]⟩:ByteArray).toList then ac+1 else ac) (if isS P ac badc (⟨#[125]⟩:ByteArray).toList then badc else failS P ac badc)/\Fr rb w w6/\NL w6 0 (.slice oo ns.length oc) ns):=⟨hr6,(HX.out.2.2.2.1.trans (Fr.of HK5.out)).trans hf6,(NL.fr (za1 HX.out.1 HK5.out) hf6 (fun b hb=>by have h1:=(HX.out.1.lt b hb).1;have h2:=HX.out.2.2.2.2.2;omega)).base⟩;clear hr6 hf6)
    | (go_at_call 58;refine (zc4 _ ⟨0,9,⟨#[]⟩,0,0,(plS P a:Nat)⟩ _ [(.slice oo ns.length oc,ns)] (HD.one (za4 _ _) (za1 HT.out.2.2 ((Ok.refl w6).alloc _))) HLB.out (by simp)).mono ?_;rintro e w7 ⟨v4,rfl,hn4,hok⟩;have HF:Hid (EPs (BkS P a bad) P rb w a bad (.returned v4) w7):=⟨v4,_,_,_,rfl,za8 hn4 (by have:=HT.out.2.1.le;simp;omega),HT.out.1.ok (((Ok.refl w6).alloc _).step hok),HT.out.2.1.trans (Fr.of (((Ok.refl w6).alloc _).step hok)),HX.out.2.2.2.2.1.block HB0.out _ (fit0 _ _ _) (BlS.fin (by rw [ByteArray.toList_eq]) HX.out.2.2.2.2.1.sem (.inr HI2.out))⟩;clear hn4 hok)
    | fail)
     go_ret
     exact HF.out
    | false =>
     have HI2:Hid (isS P ac badc [125]=false):=h2
     clear h2
     go_wp2_with (first
    | (go_at_call 30;refine (zb1 P rb _ ac badc _ HX.out.2.2.1).mono ?_;rintro e w5 ⟨rfl,hok⟩;rw [show isS P ac badc (⟨#[125]⟩:ByteArray).toList=false by (rw [ByteArray.toList_eq];exact HI2.out)];have HR5:Hid (RI P rb w5 ac badc):=HX.out.2.2.1.ok hok;have HK5:Hid (Ok wr w5):=hok;clear hok f0 f1 f2 f3 z0 z1 z2 z3 hlt)
    | (go_at_call 32;refine (HS.out ((P.ts.length-ac)*10+2) (by have:=HM.out;have:=HX.out.2.2.2.2.1.le;omega) _ ac badc HR5.out (Nat.le_refl _)).mono ?_;rintro e w6 ⟨v6,ms,a2,bad2,rfl,hnl,hri,hfr,hgot⟩;have HQ:Hid (NL w6 w5.heap.size v6 ms/\RI P rb w6 a2 bad2/\Fr rb w5 w6/\Got (StS P ac badc) P ac badc ms a2 bad2):=⟨hnl,hri,hfr,hgot⟩;clear hnl hri hfr hgot)
    | (at_builtin;refine zd8 rfl _ _ rfl w.heap.size _ ns.length ns (by rfl) (NL.fr (za1 HX.out.1 HK5.out) HQ.out.2.2.1 (fun b hb=>by have h1:=(HX.out.1.lt b hb).1;have h2:=HX.out.2.2.2.2.2;omega)) w5.heap.size v6 ms (by rfl) HQ.out.1 (by have h1:=HX.out.2.2.2.2.1.len' HG.out HX.out.2.2.1.le;have h2:=HQ.out.2.2.2.len' HG.out HQ.out.2.1.le;omega) (by have h1:=HX.out.2.2.2.1.le;have h2:=HK5.out.le;have h3:=HQ.out.2.2.1.le;omega) ?_;intro v7 w7 hown7 hgrow;have HX7:Hid (BI (BlS P a bad) P rb w (a+1) w7 v7 (ns.length+ms.length) (ns++ms) a2 bad2):=BI.more H.out HX.out HBC.out HK5.out HQ.out.2.2.1 HQ.out.2.1 HQ.out.2.2.2 (BlS.next HX.out.2.2.2.2.1.sem (by have:=HX.out.2.2.2.2.1.le;omega) HBC.out HI2.out HQ.out.2.2.2.sem (HQ.out.2.2.2.on HBC.out) HQ.out.2.2.2.le HQ.out.2.1.le) hown7 hgrow;obtain ⟨o7,c7,rfl⟩:=za0 hown7;clear hown7 hgrow)
    | fail)
     go_roundw
     case rel=>exact ⟨o7,c7,ns++ms,a2,bad2,by rw [List.length_append],(by have h:=HX7.out;rw [<-List.length_append] at h;exact h)⟩
     case measure =>
      have e1:=HX7.out.2.2.1.atOf
      have e2:=HX.out.2.2.1.atOf
      have e3:=HX7.out.2.2.1.badOf
      have e4:=HX.out.2.2.1.badOf
      have h1:=HQ.out.2.2.2.le
      have h2:=HQ.out.2.2.2.on HBC.out
      have h3:=(zt9 (P:=P) (a:=ac) (bad:=badc))
      have h4:=HX7.out.2.2.1.le
      rw [e1,e2,e3,e4,if_pos HBC.out]
      split
      ·rcases h2 with h2 | h2<;>omega
      ·omega
   ·have hdb:decide (badc<0)=false:=decide_eq_false hb
    have HNB:Hid (¬badc<0):=hb
    go_wp2_with (first
    | (go_at_call 57;refine (zc6 P rb _ ac badc _ HX.out.2.2.1).mono ?_;rintro e w6 ⟨rfl,hr6,hf6⟩;have HT:Hid (RI P rb w6 (if isS P ac badc (⟨#[125]⟩:ByteArray).toList then ac+1 else ac) (if isS P ac badc (⟨#[125]⟩:ByteArray).toList then badc else failS P ac badc)/\Fr rb w w6/\NL w6 0 (.slice oo ns.length oc) ns):=⟨hr6,HX.out.2.2.2.1.trans hf6,(NL.fr (HX.out.1) hf6 (fun b hb=>by have h1:=(HX.out.1.lt b hb).1;have h2:=HX.out.2.2.2.2.2;omega)).base⟩;clear hr6 hf6)
    | (go_at_call 58;refine (zc4 _ ⟨0,9,⟨#[]⟩,0,0,(plS P a:Nat)⟩ _ [(.slice oo ns.length oc,ns)] (HD.one (za4 _ _) (za1 HT.out.2.2 ((Ok.refl w6).alloc _))) HLB.out (by simp)).mono ?_;rintro e w7 ⟨v4,rfl,hn4,hok⟩;have HF:Hid (EPs (BkS P a bad) P rb w a bad (.returned v4) w7):=⟨v4,_,_,_,rfl,za8 hn4 (by have:=HT.out.2.1.le;simp;omega),HT.out.1.ok (((Ok.refl w6).alloc _).step hok),HT.out.2.1.trans (Fr.of (((Ok.refl w6).alloc _).step hok)),HX.out.2.2.2.2.1.block HB0.out _ (fit0 _ _ _) (BlS.fin (by rw [ByteArray.toList_eq]) HX.out.2.2.2.2.1.sem (.inl (by have h:=HNB.out;omega)))⟩;clear hn4 hok)
    | fail)
    go_ret
    exact HF.out
end
section
open Go.RowKit
structure Acc (P:RP) (a n ac:Nat) (badc:Int) (e:Nat):Prop where
 le:a+1<=ac
 len:n<=8*(ac-(a+1))+(if badc<0 then 0 else 8)+e
theorem Acc.start (P:RP) (a:Nat) (bad:Int):Acc P a 0 (a+1) bad 0:=⟨Nat.le_refl _,Nat.zero_le _⟩
theorem Acc.take {P:RP} {a n ac e:Nat} {badc:Int} (h:Acc P a n ac badc e) (t:List UInt8):Acc P a n (if isS P ac badc t then ac+1 else ac) (if isS P ac badc t then badc else failS P ac badc) e:=by
 have h1:=h.le
 have h2:=h.len
 cases ht:isS P ac badc t with
 | true =>
  simp only [if_true]
  refine ⟨by omega,?_⟩
  split at h2<;>(split<;>omega)
 | false =>
  have:=ze7 P ac badc
  simp only [Bool.false_eq_true,if_false]
  refine ⟨by omega,?_⟩
  rw [if_neg (by omega)]
  split at h2<;>omega
theorem Acc.name {P:RP} {a n ac e:Nat} {badc:Int} (h:Acc P a n ac badc e):Acc P a n (if namS P ac badc then ac+1 else ac) (if namS P ac badc then badc else failS P ac badc) e:=by
 have h1:=h.le
 have h2:=h.len
 cases ht:namS P ac badc with
 | true =>
  simp only [if_true]
  refine ⟨by omega,?_⟩
  split at h2<;>(split<;>omega)
 | false =>
  have:=ze7 P ac badc
  simp only [Bool.false_eq_true,if_false]
  refine ⟨by omega,?_⟩
  rw [if_neg (by omega)]
  split at h2<;>omega
theorem Acc.expr {S:List Nd->Nat->Int->Prop} {P:RP} {a n ac e a2:Nat} {badc bad2:Int} {ns:List Nd} (h:Acc P a n ac badc e) (hg:Got S P ac badc ns a2 bad2) (h0:0<=badc->ns=[]):Acc P a (n+ns.length) a2 bad2 e:=by
 have h1:=h.le
 have h2:=h.len
 have h3:=hg.le
 refine ⟨by omega,?_⟩
 by_cases hb:badc<0
 ·have h4:=hg.len hb
  rw [if_pos hb] at h2
  split at h4<;>(split<;>omega)
 ·have h5:=hg.off (by omega)
  rw [h0 (by omega),h5.2.1,h5.2.2]
  simpa using h2
theorem Acc.block {S:List Nd->Nat->Int->Prop} {P:RP} {a n ac e a2:Nat} {badc bad2:Int} {ns:List Nd} (h:Acc P a n ac badc e) (hg:Got S P ac badc ns a2 bad2):Acc P a (n+ns.length) a2 bad2 (e+1):=by
 have h1:=h.le
 have h2:=h.len
 have h3:=hg.le
 refine ⟨by omega,?_⟩
 by_cases hb:badc<0
 ·have h4:=hg.len hb
  rw [if_pos hb] at h2
  split at h4<;>(split<;>omega)
 ·have h5:=hg.off (by omega)
  rw [h5.2.1,h5.2.2]
  split at h2<;>(split<;>omega)
theorem Acc.got {S:List Nd->Nat->Int->Prop} {P:RP} {a n ac e:Nat} {bad badc:Int} {nd:Nd} {ps:List (Value×List Nd)} (hb:bad<0) (h:Acc P a n ac badc e) (he:e<=7) (hn:nd.Fit) (hl:(held ps).length=n) (hf:∀ x∈held ps,x.Fit) (hs:S (nodeS nd ps) ac badc):Got S P a bad (nodeS nd ps) ac badc:=by
 have h1:=h.le
 have h2:=h.len
 refine ⟨by omega,fun _=>.inl (by omega),fun h0=>by omega,fun _=>?_,?_,hs⟩
 ·unfold nodeS
  rw [List.length_cons,hl]
  split at h2<;>(split<;>omega)
 ·intro x hx
  unfold nodeS at hx
  rw [List.mem_cons] at hx
  rcases hx with rfl | hx
  ·exact ⟨hn.name,by simp,by simp,hn.num⟩
  ·exact hf x hx
theorem zg4 {S:List Nd->Nat->Int->Prop} {P:RP} {rb:Nat} {w w8 w9:World} {a n ac e B:Nat} {bad badc:Int} {nd:Nd} {ps:List (Value×List Nd)} {v4:Value} (hf:Fr rb w w8) (hri:RI P rb w8 ac badc) (hb:bad<0) (h:Acc P a n ac badc e) (he:e<=7) (hn:nd.Fit) (hl:(held ps).length=n) (hfit:∀ x∈held ps,x.Fit) (hn4:NL w9 B v4 (nodeS nd ps)) (hB:w.heap.size<=B) (hok:Ok w8 w9) (hs:S (nodeS nd ps) ac badc):EPs S P rb w a bad (.returned v4) w9 :=
 ⟨v4,_,ac,badc,rfl,za8 hn4 hB,hri.ok hok,hf.trans (Fr.of hok),Acc.got hb h he hn hl hfit hs⟩
theorem yf8 {S:List Nd->Nat->Int->Prop} {P:RP} {a a2:Nat} {bad bad2:Int} {ns:List Nd} {v:Value} (h:Got S P a bad ns a2 bad2):∀ x∈held [(v,ns)],x.Fit:=by
 intro x hx
 rw [held1,List.mem_map] at hx
 obtain ⟨y,hy,rfl⟩:=hx
 exact zf1 (h.fit y hy)
set_option maxRecDepth 100000 in
theorem yf9 (P:RP) (rb:Nat) (w:World) (a:Nat) (bad:Int) (hG:GT P) (h:RI P rb w a bad) (hi2:isS P a bad [105,110,112,117,116]=false) (hi3:isS P a bad [97,115,115,101,114,116]=false) (hi4:isS P a bad [115,107,105,112]=true):Calls Tryz.prog 32 #[.pointer (some ⟨rb,0,none⟩)] w (EPs (StS P a bad) P rb w a bad):=by
 have H:=hid h
 have HG:=hid hG
 have HI_2:Hid _:=hi2
 have HI_3:Hid _:=hi3
 have HI_4:Hid _:=hi4
 have HB0:Hid (bad<0):=(zb9 hi4).1
 have ha:a<P.ts.length:=(zb9 hi4).2
 clear hi2 hi3 hi4
 have haw:IntKind.i64.wrap ((a:Int)+1)=((a+1:Nat):Int):=zb6 (by have:=H.out.lim;omega)
 clear h hG
 go_enter Tryz.func32,Tryz.ntmps32
 go_wp2_with (first
  | (go_at_call 55;refine (zb8 P rb _ a bad H.out).mono ?_;rintro e w1 ⟨rfl,hok⟩;have HR1:Hid (RI P rb w1 a bad):=H.out.ok hok;have HK1:Hid (Ok w w1):=hok;clear hok)
  | (go_at_call_of 30 ((⟨#[105,110,112,117,116]⟩:ByteArray));refine (zb1 P rb _ a bad _ HR1.out).mono ?_;rintro e w2 ⟨rfl,hok⟩;rw [show isS P a bad (⟨#[105,110,112,117,116]⟩:ByteArray).toList=false by (rw [ByteArray.toList_eq];exact HI_2.out)];have HR2:Hid (RI P rb w2 a bad):=HR1.out.ok hok;have HK2:Hid (Ok w w2):=HK1.out.step hok;clear hok)
  | (go_at_call_of 30 ((⟨#[97,115,115,101,114,116]⟩:ByteArray));refine (zb1 P rb _ a bad _ HR2.out).mono ?_;rintro e w3 ⟨rfl,hok⟩;rw [show isS P a bad (⟨#[97,115,115,101,114,116]⟩:ByteArray).toList=false by (rw [ByteArray.toList_eq];exact HI_3.out)];have HR3:Hid (RI P rb w3 a bad):=HR2.out.ok hok;have HK3:Hid (Ok w w3):=HK2.out.step hok;clear hok)
  | (go_at_call_of 30 ((⟨#[115,107,105,112]⟩:ByteArray));refine (zb1 P rb _ a bad _ HR3.out).mono ?_;rintro e w4 ⟨rfl,hok⟩;rw [show isS P a bad (⟨#[115,107,105,112]⟩:ByteArray).toList=true by (rw [ByteArray.toList_eq];exact HI_4.out)];have HR4:Hid (RI P rb w4 a bad):=HR3.out.ok hok;have HK4:Hid (Ok w w4):=HK3.out.step hok;obtain ⟨f0,f1,f2,f3,z0,z1,z2,z3⟩:=za7 HR4.out.row;have hlt:=HR4.out.lt;clear hok)
  | (go_at_call 57;refine (zc6 P rb _ (a+1) bad _ (HR4.out.setAt (a+1) ha)).mono ?_;rintro e w20 ⟨rfl,hr8,hf8⟩;have HT:Hid (RI P rb w20 (if isS P (a+1) bad (⟨#[59]⟩:ByteArray).toList then (a+1)+1 else (a+1)) (if isS P (a+1) bad (⟨#[59]⟩:ByteArray).toList then bad else failS P (a+1) bad)/\Fr rb w w20):=⟨hr8,Fr.trans ((Fr.of HK4.out).set 1 _) hf8⟩;clear f0 f1 f2 f3 z0 z1 z2 z3 hlt;clear hr8 hf8)
  | (go_at_call 58;refine (zc4 _ ⟨0,6,⟨#[]⟩,0,0,(plS P a:Nat)⟩ _ [] (HD.none _) (by simp [held]) (by simp)).mono ?_;rintro e w21 ⟨v4,rfl,hn4,hok⟩;have HF:Hid (EPs (StS P a bad) P rb w a bad (.returned v4) w21):=zg4 HT.out.2 HT.out.1 HB0.out (Acc.take (Acc.start P a bad) _) (by decide) (fit0 _ _ _) rfl (fun x hx=>by cases hx) hn4 HT.out.2.le hok (StS.skip (by rw [ByteArray.toList_eq]) HI_2.out HI_3.out HI_4.out);clear hn4 hok)
  | fail)
 go_ret
 exact HF.out
theorem zf2 {P:RP} {a:Nat} {b:Bool} {s:ByteArray} (hG:GT P) (hs:s.toList=(if b then txS P a else [])):s.size<=1000000:=by
 cases b with
 | true=>exact zu0 hG (by simpa using hs)
 | false =>
  rw [<-zc3,hs];simp
set_option maxRecDepth 100000 in
theorem zU0 (P:RP) (rb:Nat) (w:World) (a:Nat) (bad:Int) (hG:GT P) (h:RI P rb w a bad) (hi2:isS P a bad [105,110,112,117,116]=true):Calls Tryz.prog 32 #[.pointer (some ⟨rb,0,none⟩)] w (EPs (StS P a bad) P rb w a bad):=by
 have H:=hid h
 have HG:=hid hG
 have HI_2:Hid _:=hi2
 have HB0:Hid (bad<0):=(zb9 hi2).1
 have ha:a<P.ts.length:=(zb9 hi2).2
 clear hi2
 have haw:IntKind.i64.wrap ((a:Int)+1)=((a+1:Nat):Int):=zb6 (by have:=H.out.lim;omega)
 clear h hG
 go_enter Tryz.func32,Tryz.ntmps32
 go_wp2_with (first
  | (go_at_call 55;refine (zb8 P rb _ a bad H.out).mono ?_;rintro e w1 ⟨rfl,hok⟩;have HR1:Hid (RI P rb w1 a bad):=H.out.ok hok;have HK1:Hid (Ok w w1):=hok;clear hok)
  | (go_at_call_of 30 ((⟨#[105,110,112,117,116]⟩:ByteArray));refine (zb1 P rb _ a bad _ HR1.out).mono ?_;rintro e w2 ⟨rfl,hok⟩;rw [show isS P a bad (⟨#[105,110,112,117,116]⟩:ByteArray).toList=true by (rw [ByteArray.toList_eq];exact HI_2.out)];have HR2:Hid (RI P rb w2 a bad):=HR1.out.ok hok;have HK2:Hid (Ok w w2):=HK1.out.step hok;obtain ⟨f0,f1,f2,f3,z0,z1,z2,z3⟩:=za7 HR2.out.row;have hlt:=HR2.out.lt;clear hok)
  | (go_at_call 56;refine (zi5 P rb _ (a+1) bad (HR2.out.setAt (a+1) ha)).mono ?_;rintro e w10 ⟨s,rfl,hs,hr6,hf6⟩;have HSZ:Hid (s.size<=1000000):=zf2 HG.out hs;obtain ⟨a6,ha6⟩:∃ x,x=(if namS P (a+1) bad then a+1+1 else a+1):=⟨_,rfl⟩;obtain ⟨b6,hb6⟩:∃ x,x=(if namS P (a+1) bad then bad else failS P (a+1) bad):=⟨_,rfl⟩;rw [<-ha6,<-hb6] at hr6;have HR6:Hid (RI P rb w10 a6 b6/\Fr rb w w10/\Acc P a 0 a6 b6 0):=⟨hr6,((Fr.of HK2.out).set 1 _).trans hf6,(by rw [ha6,hb6];exact (Acc.start P a bad).name)⟩;have HNA:Hid (s=naT P (a+1) bad):=zq4 hs;have HA6:Hid (a6=naA P (a+1) bad/\b6=naB P (a+1) bad):=⟨ha6,hb6⟩;clear hs hr6 hf6 ha6 hb6 f0 f1 f2 f3 z0 z1 z2 z3 hlt)
  | (go_at_call 57;refine (zc6 P rb _ a6 b6 _ HR6.out.1).mono ?_;rintro e w20 ⟨rfl,hr8,hf8⟩;have HT:Hid (RI P rb w20 (if isS P a6 b6 (⟨#[59]⟩:ByteArray).toList then a6+1 else a6) (if isS P a6 b6 (⟨#[59]⟩:ByteArray).toList then b6 else failS P a6 b6)/\Fr rb w w20):=⟨hr8,Fr.trans HR6.out.2.1 hf8⟩;clear hr8 hf8)
  | (go_at_call 58;refine (zc4 _ ⟨0,4,s,0,0,(plS P a:Nat)⟩ _ [] (HD.none _) (by simp [held]) (by simp)).mono ?_;rintro e w21 ⟨v4,rfl,hn4,hok⟩;have HF:Hid (EPs (StS P a bad) P rb w a bad (.returned v4) w21):=zg4 HT.out.2 HT.out.1 HB0.out (Acc.take HR6.out.2.2 _) (by decide) ⟨HSZ.out,by simp,by simp,by simp⟩ rfl (fun x hx=>by cases hx) hn4 HT.out.2.le hok (StS.input2 (by rw [ByteArray.toList_eq]) HI_2.out HNA.out HA6.out);clear hn4 hok)
  | fail)
 go_ret
 exact HF.out
set_option maxRecDepth 100000 in
theorem zK8 (P:RP) (rb:Nat) (w:World) (a:Nat) (bad:Int) (hG:GT P) (h:RI P rb w a bad) (hi2:isS P a bad [105,110,112,117,116]=false) (hi3:isS P a bad [97,115,115,101,114,116]=true):Calls Tryz.prog 32 #[.pointer (some ⟨rb,0,none⟩)] w (EPs (StS P a bad) P rb w a bad):=by
 have H:=hid h
 have HG:=hid hG
 have HI_2:Hid _:=hi2
 have HI_3:Hid _:=hi3
 have HB0:Hid (bad<0):=(zb9 hi3).1
 have ha:a<P.ts.length:=(zb9 hi3).2
 clear hi2 hi3
 have haw:IntKind.i64.wrap ((a:Int)+1)=((a+1:Nat):Int):=zb6 (by have:=H.out.lim;omega)
 clear h hG
 go_enter Tryz.func32,Tryz.ntmps32
 go_wp2_with (first
  | (go_at_call 55;refine (zb8 P rb _ a bad H.out).mono ?_;rintro e w1 ⟨rfl,hok⟩;have HR1:Hid (RI P rb w1 a bad):=H.out.ok hok;have HK1:Hid (Ok w w1):=hok;clear hok)
  | (go_at_call_of 30 ((⟨#[105,110,112,117,116]⟩:ByteArray));refine (zb1 P rb _ a bad _ HR1.out).mono ?_;rintro e w2 ⟨rfl,hok⟩;rw [show isS P a bad (⟨#[105,110,112,117,116]⟩:ByteArray).toList=false by (rw [ByteArray.toList_eq];exact HI_2.out)];have HR2:Hid (RI P rb w2 a bad):=HR1.out.ok hok;have HK2:Hid (Ok w w2):=HK1.out.step hok;clear hok)
  | (go_at_call_of 30 ((⟨#[97,115,115,101,114,116]⟩:ByteArray));refine (zb1 P rb _ a bad _ HR2.out).mono ?_;rintro e w3 ⟨rfl,hok⟩;rw [show isS P a bad (⟨#[97,115,115,101,114,116]⟩:ByteArray).toList=true by (rw [ByteArray.toList_eq];exact HI_3.out)];have HR3:Hid (RI P rb w3 a bad):=HR2.out.ok hok;have HK3:Hid (Ok w w3):=HK2.out.step hok;obtain ⟨f0,f1,f2,f3,z0,z1,z2,z3⟩:=za7 HR3.out.row;have hlt:=HR3.out.lt;clear hok)
  | (go_at_call 60;refine (zk3 P rb HG.out _ (a+1) bad 0 (by decide) (HR3.out.setAt (a+1) ha)).mono ?_;rintro e w10 ⟨v3,ms,a6,b6,rfl,hnl,hri,hfr,hgot,h0⟩;obtain ⟨bo,cq,rfl⟩:=za0 hnl;have HQ:Hid (NL w10 w.heap.size (.slice bo ms.length cq) ms/\Got (ExS P 0 (a+1) bad) P (a+1) bad ms a6 b6/\ms.length<=65544):=⟨za8 hnl (by have:=HK3.out.le;simpa using this),hgot,hgot.len' HG.out hri.le⟩;have HR6:Hid (RI P rb w10 a6 b6/\Fr rb w w10/\Acc P a (0+ms.length) a6 b6 0):=⟨hri,((Fr.of HK3.out).set 1 _).trans hfr,(Acc.start P a bad).expr hgot h0⟩;clear hnl hri hfr hgot h0 f0 f1 f2 f3 z0 z1 z2 z3 hlt)
  | (go_at_call 57;refine (zc6 P rb _ a6 b6 _ HR6.out.1).mono ?_;rintro e w20 ⟨rfl,hr8,hf8⟩;have HT:Hid (RI P rb w20 (if isS P a6 b6 (⟨#[59]⟩:ByteArray).toList then a6+1 else a6) (if isS P a6 b6 (⟨#[59]⟩:ByteArray).toList then b6 else failS P a6 b6)/\Fr rb w w20):=⟨hr8,Fr.trans HR6.out.2.1 hf8⟩;have HN:Hid (NL w20 0 (.slice bo ms.length cq) ms):=(NL.fr HQ.out.1 hf8 (fun b hb=>by have h1:=(HQ.out.1.lt b hb).1;have h2:=H.out.lt;omega)).base;clear hr8 hf8)
  | (go_at_call 58;refine (zc4 _ ⟨0,5,⟨#[]⟩,0,0,(plS P a:Nat)⟩ _ [(.slice bo ms.length cq,ms)] (HD.one (za4 _ _) (za1 HN.out ((Ok.refl w20).alloc _))) (by have:=HQ.out.2.2;rw [held1,List.length_map];omega) (by simp)).mono ?_;rintro e w21 ⟨v4,rfl,hn4,hok⟩;have HF:Hid (EPs (StS P a bad) P rb w a bad (.returned v4) w21):=zg4 HT.out.2 HT.out.1 HB0.out (Acc.take HR6.out.2.2 _) (by decide) (fit0 _ _ _) (by rw [held1,List.length_map,Nat.zero_add]) (yf8 HQ.out.2.1) hn4 (by have:=HT.out.2.le;simp;omega) (((Ok.refl w20).alloc _).step hok) (StS.assert (by rw [ByteArray.toList_eq]) HI_2.out HI_3.out HQ.out.2.1.sem);clear hn4 hok)
  | fail)
 go_ret
 exact HF.out
end
end Go.Proofs.YtenoopfeplalnaaGreatDoor
