import Derived.Test.YtpongdpnbclchaaGreatDoorKLo
set_option maxHeartbeats 8000000
set_option linter.all false
set_option maxRecDepth 100000
namespace Go.Proofs.YtpongdpnbclchaaGreatDoor
variable{B a a' rb:Nat}{P:RP}{bad bad':Int}{w w2:World}
section
open Go.RowKit
theorem zu5(h:¬bad<0\/¬a<P.ts.length)(t:List UInt8):isS P a bad t=false:=by
 unfold isS;rcases h with h | h
 ·rw[decide_eq_false h,Bool.false_and]
 rw[List.getElem?_eq_none (by omega),Bool.and_false]
theorem yr4(h:¬bad<0\/¬a<P.ts.length):CK P a bad=false:=by
 unfold CK;rcases h with h | h
 ·rw[decide_eq_false h,Bool.false_and]
 rw[List.getElem?_eq_none (by omega),Bool.and_false]
theorem Got.fail{S:List Nd->Nat->Int->Prop}(P:RP)(a:Nat)(bad:Int)(hs:S [] a (AI P a bad)):Got S P a bad [] a (AI P a bad) :=
 ⟨Nat.le_refl _,λ_=>.inr (ze7 P a bad),λh0=>⟨Nat.zero_le _,rfl,by unfold AI;rw[if_neg (by omega)]⟩,λ_=>Nat.zero_le _,λn hn=>(by cases hn),hs⟩
theorem zB0{S:List Nd->Nat->Int->Prop}{w1:World}(hk:Ok w w1)(hr:RI P rb w2 a (AI P a bad))(hf:Fr rb w1 w2)(hs:S [] a (AI P a bad)):EPx S P rb w a bad (.returned (sZ)) w2 :=
 ⟨_,[],a,_,rfl,World.ownsRow_nil _ _ _ _,hr,(Fr.of hk).trans hf,Got.fail P a bad hs,λ_=>rfl⟩
theorem Got.leaf{S:List Nd->Nat->Int->Prop}{n:Nd}(hb:bad<0)(hn:n.Fit)(hs:S (BK n []) (a+1) bad):Got S P a bad (BK n []) (a+1) bad:=by
 refine⟨by omega,λ_=>.inl oM,λh0=>by omega,λ_=>?_,?_,hs⟩
 ·rw[if_pos hb];simp[BK,held]
 intro x hx;simp[BK,held]at hx;subst hx;exact⟨hn.name,by simp,by simp,hn.num⟩
theorem zr1{S:List Nd->Nat->Int->Prop}{w4:World}{n:Nd}{v4:Value}(hf:Fr rb w w2)(hr:RI P rb w2 (a+1) bad)(hb:bad<0)(hn4:NL w4 B v4 (BK n []))(hB:w.heap.size<=B)(hok:Ok w2 w4)(hn:n.Fit)(hs:S (BK n []) (a+1) bad):EPx S P rb w a bad (.returned v4) w4 :=
 ⟨v4,_,a+1,bad,rfl,za7 hn4 hB,hr.ok hok,hf.trans (Fr.of hok),Got.leaf hb hn hs,λh0=>by omega⟩
theorem zB1(h:¬bad<0\/¬a<P.ts.length):CI P a bad=false:=by
 unfold CI;rcases h with h | h
 ·rw[decide_eq_false h,Bool.false_and]
 rw[List.getElem?_eq_none (by omega),Bool.and_false]
theorem zR2(P:RP)(rb:Nat)(w:World)(a:Nat)(bad:Int)(h:RI P rb w a bad)(hx:¬bad<0\/¬a<P.ts.length):Calls Tryz.prog 137 #[pA rb 0] w (EPx (ExS P 7 a bad) P rb w a bad):=by
 have H:=hid h;have HI_2:Hi (isS P a bad [116,114,117,101]=false):=zu5 hx _;have HI_3:Hi (isS P a bad [102,97,108,115,101]=false):=zu5 hx _;have HI_4:Hi (isS P a bad [40]=false):=zu5 hx _;have HN:=hid (yr4 hx);have HNU:=hid (zB1 hx);have hlen:(P.ts.length:Nat)<=1000000:=h.lim.1;obtain⟨ao,cap,htv⟩:=za0 h.own;have HTV:=hid htv;clear h htv;by_cases hb0:bad<0
 ·have hb0':decide (bad<0)=true:=dT_ hb0
  have ha:¬a<P.ts.length:=by rcases hx with h | h;exact absurd hb0 h;exact h
  have ha':¬(a:Int)<(P.ts.length:Int):=zb2 ha;have ha2:decide (a<P.ts.length)=false:=dF_ ha;clear hx;go_enter Tryz.func137,Tryz.ntmps137
  go_wp2_with (first|(go_at_call 69;refine plC H.o λw1 HR1 HK1=>?_;obtain⟨f0,f1,f2,f3,z0,z1,z2,z3⟩:=za6 HR1.o.row;have hlt:=HR1.o.lt)|fail)
  rw[HTV.o]at f0;go_quiet (fail);obtain⟨w9,hw9⟩:=qq (w1.drewN nq);rw[<-hw9];have HR9:Hi (RI P rb w9 a bad):=by rw[hw9];exact HR1.o.ok ((Ok.refl _).draws _)
  have HK9:Hi (Ok w w9):=by rw[hw9];exact HK1.o.draws _
  clear hw9 f0 f1 f2 f3 z0 z1 z2 z3 hlt
  go_wp2_with (first
   |(go_at_call_of 39 ((⟨#[116,114,117,101]⟩:ByteArray));refine isC HR9.o HK9.o HI_2.o λw2 HR2 HK2=>?_)
   |(go_at_call_of 39 ((⟨#[102,97,108,115,101]⟩:ByteArray));refine isC HR2.o HK2.o HI_3.o λw3 HR3 HK3=>?_)
   |(go_at_call_of 39 ((⟨#[40]⟩:ByteArray));refine isC HR3.o HK3.o HI_4.o λw4 HR4 HK4=>?_)
   |(go_at_call 107;refine mq (zi4 P rb _ a bad HR4.o) λw5 hok=>?_;rw[HN.o];have HR5:=hid (HR4.o.ok hok);have HK5:=hid (HK4.o.step hok);clear hok)
   |(go_at_call 73;refine mq (zn1 P rb _ a bad HR5.o) λw6 ⟨hr9,hf9⟩=>?_;have HF:=hid (zB0 HK5.o hr9 hf9 (ExS.nil HNU.o HI_2.o HI_3.o HI_4.o HN.o));clear hr9 hf9)
   | fail)
  go_ret;exact HF.o
 have hb0':decide (bad<0)=false:=dF_ hb0;clear hx;go_enter Tryz.func137,Tryz.ntmps137
 go_wp2_with (first|(go_at_call 69;refine plC H.o λw1 HR1 HK1=>?_;obtain⟨f0,f1,f2,f3,z0,z1,z2,z3⟩:=za6 HR1.o.row;have hlt:=HR1.o.lt)|fail)
 rw[HTV.o]at f0;go_quiet (fail);obtain⟨w9,hw9⟩:=qq (w1.drewN nq);rw[<-hw9];have HR9:Hi (RI P rb w9 a bad):=by rw[hw9];exact HR1.o.ok ((Ok.refl _).draws _)
 have HK9:Hi (Ok w w9):=by rw[hw9];exact HK1.o.draws _
 clear hw9 f0 f1 f2 f3 z0 z1 z2 z3 hlt
 go_wp2_with (first
  |(go_at_call_of 39 ((⟨#[116,114,117,101]⟩:ByteArray));refine isC HR9.o HK9.o HI_2.o λw2 HR2 HK2=>?_)
  |(go_at_call_of 39 ((⟨#[102,97,108,115,101]⟩:ByteArray));refine isC HR2.o HK2.o HI_3.o λw3 HR3 HK3=>?_)
  |(go_at_call_of 39 ((⟨#[40]⟩:ByteArray));refine isC HR3.o HK3.o HI_4.o λw4 HR4 HK4=>?_)
  |(go_at_call 107;refine mq (zi4 P rb _ a bad HR4.o) λw5 hok=>?_;rw[HN.o];have HR5:=hid (HR4.o.ok hok);have HK5:=hid (HK4.o.step hok);clear hok)
  |(go_at_call 73;refine mq (zn1 P rb _ a bad HR5.o) λw6 ⟨hr9,hf9⟩=>?_;have HF:=hid (zB0 HK5.o hr9 hf9 (ExS.nil HNU.o HI_2.o HI_3.o HI_4.o HN.o));clear hr9 hf9)
  | fail)
 go_ret;exact HF.o
end
section
open Go.RowKit
theorem yr5(P:RP)(rb:Nat)(w:World)(a:Nat)(bad:Int)(hG:GT P)(h:RI P rb w a bad)(hb0:bad<0)(x:Tk)(hx:P.ts[a]?=some x)(hk:x.1=1):Calls Tryz.prog 137 #[pA rb 0] w (EPx (ExS P 7 a bad) P rb w a bad):=by
 have H:=hid h;have ha:a<P.ts.length:=(List.getElem?_eq_some_iff.1 hx).1;have hlen:(P.ts.length:Nat)<=1000000:=h.lim.1;obtain⟨ao,cap,htv⟩:=za0 h.own;have HB0:=hid hb0;have hb0':decide (bad<0)=true:=dT_ hb0;have ha':(a:Int)<(P.ts.length:Int):=za5 ha;have ha2:decide (a<P.ts.length)=true:=dT_ ha;have haw:IntKind.i64.wrap ((a:Int)+1)=((a+1:Nat):Int):=zb3 oM;have haw2:IntKind.i64.wrap (((a+1:Nat):Int)-1)=(a:Int):=zd3 oM oM;have haw3:IntKind.i64.wrap (a:Int)=(a:Int):=zd3 rfl oM;have haw4:IntKind.i64.wrap ((a:Int)+1-1)=(a:Int):=zd3 oM oM;obtain⟨kd,tx,nm,pl⟩:=x;have hk1:kd=1:=hk;subst hk1;have HX:=hid hx;have HFT:Hi (∀z:Int,(⟨0,10,⟨#[]⟩,nm,0,z⟩:Nd).Fit):=λz=>⟨Nat.zero_le _,by simp,by simp,(hG.2 _ (List.mem_of_getElem? hx)).2⟩;clear h htv hx hk hG;go_enter Tryz.func137,Tryz.ntmps137
 go_wp2_with (first|(go_at_call 69;refine plC H.o λw1 HR1 HK1=>?_;obtain⟨f0,f1,f2,f3,z0,z1,z2,z3⟩:=za6 HR1.o.row;have hlt:=HR1.o.lt)|fail)
 obtain⟨g,c,y,b,htv,hg,hy,hb,c0,c1,c2,c3⟩:=HR1.o.tok ha;have e:y=(1,tx,nm,pl):=by have:=HX.o;rw[hy]at this;exact Option.some.inj this
 subst e;simp only at c0 c1 c2 c3;rw[htv]at f0;have HTV:Hi (P.tv=.slice (sA g 0) P.ts.length c/\g<w1.heap.size):=⟨htv,hg⟩;clear htv hb hy;go_quiet (fail);obtain⟨w9,hw9⟩:=qq (w1.drewN nq);rw[<-hw9];have HR9:Hi (RI P rb w9 a bad):=by rw[hw9];exact HR1.o.ok ((Ok.refl _).draws _)
 have HK9:Hi (Ok w w9):=by rw[hw9];exact HK1.o.draws _
 clear hw9 f0 f1 f2 f3 z0 z1 z2 z3 hlt;clear c0 c1 c2 c3 hg;obtain⟨f0,f1,f2,f3,z0,z1,z2,z3⟩:=za6 HR9.o.row;have hlt:=HR9.o.lt;go_wp2_with fail;obtain⟨W,hW⟩:=qq (w9.setCell ⟨rb,1,none⟩ (nI ((a+1:Nat):Int)));have HRW:Hi (RI P rb W (a+1) bad/\Fr rb w W):=by unfold Hi;rw[hW];exact⟨HR9.o.setAt (a+1) ha,(Fr.of HK9.o).set 1 _⟩
 have hW':w9.setCell (aD rb 1) (nI ((a:Int)+1))=W:=by rw[hW];rfl
 rw[hW'];clear f0 f1 f2 f3 z0 z1 z2 z3 hlt hW hW';obtain⟨f0,f1,f2,f3,z0,z1,z2,z3⟩:=za6 HRW.o.1.row;obtain⟨g',c',y,b',htv,hg,hy,hb,c0,c1,c2,c3⟩:=RI.tokAt HRW.o.1 ha;have e:y=(1,tx,nm,pl):=by have:=HX.o;rw[hy]at this;exact Option.some.inj this
 subst e;have hsame:=htv.symm.trans HTV.o.1
 injection hsame with e1 _ e3
 injection e1 with e1
 injection e1 with e1
 subst e1 e3;rw[htv]at f0;simp only at c2;have hltW:=HRW.o.1.lt;clear hy hb htv c0 c1 c3 f2 f3
 go_region_held3 (λw'=>w'.cell? (aD rb 0)=some (.slice (sA g' 0) P.ts.length c')/\w'.cell? (aD rb 1)=some (nI ((a+1:Nat):Int))/\w'.cell? ⟨g',a*4+2,none⟩=some (nI nm))
  (first|(exact⟨f0,f1,c2⟩) | (exact⟨d0,d1,d2⟩) | go_keep)
  (first
  |(go_at_call 72;refine(Calls.mono (zc3 _ ⟨0,10,⟨#[]⟩,nm,0,(plS P a:Nat)⟩ _ [] (HD.none _) (by simp[held]) (by simp)) ?_);rintro e w4 ⟨v4,rfl,hn4,hok⟩;have HK4:Hi (Ok W w4):=(by first | exact hok | exact Ok.step ((Ok.refl W).draws _) hok | exact Ok.step (Below.drew (Ok.refl W)) hok);have HF:Hi (EPx (ExS P 7 a bad) P rb w a bad (.returned v4) w4):=zr1 HRW.o.2 HRW.o.1 HB0.o hn4 (by have:=HRW.o.2.le;first | exact this | simpa using this) HK4.o (HFT.o _) (ExS.num HB0.o HX.o rfl);have d0:=HK4.o.cell (p:=⟨rb,0,none⟩) hltW f0;have d1:=HK4.o.cell (p:=⟨rb,1,none⟩) hltW f1;have d2:=HK4.o.cell (p:=⟨g',a*4+2,none⟩) hg c2;clear hok hn4)
  | fail)
 go_wp2_with fail;go_ret;exact HF.o
end
section
open Go.RowKit
theorem Got.shift{S:List Nd->Nat->Int->Prop}{ns:List Nd}(hb:bad<0)(h:Got S P (a+1) bad ns a' bad'):Got S P a bad ns a' bad':=by
 have h1:=h.le;refine⟨by omega,λ_=>.inl oM,λh0=>by omega,λ_=>?_,h.fit,h.sem⟩;have h2:=h.len hb
 split at h2<;>(split<;>omega)
theorem Got.take{S S':List Nd->Nat->Int->Prop}{ns:List Nd}(hb:bad<0)(h:Got S P a bad ns a' bad')(t:List UInt8)(hs:S' ns (if isS P a' bad' t then a'+1 else a') (if isS P a' bad' t then bad' else AI P a' bad')):Got S' P a bad ns (if isS P a' bad' t then a'+1 else a') (if isS P a' bad' t then bad' else AI P a' bad'):=by
 have h1:=h.le;have h2:=h.len hb
 revert hs
 cases ht:isS P a' bad' t with
 | true =>
  have:=(zb9 ht).1;simp only[if_true];intro hs;refine⟨by omega,λ_=>.inl oM,λh0=>by omega,λ_=>?_,h.fit,hs⟩;rw[if_pos this]at h2 ⊢;omega
 | false =>
  have:=ze7 P a' bad';simp only[Bool.false_eq_true,if_false];intro hs;refine⟨h1,λ_=>.inr this,λh0=>by omega,λ_=>?_,h.fit,hs⟩;rw[if_neg (by omega)]
  split at h2<;>omega
theorem yg0{S S':List Nd->Nat->Int->Prop}{w3 w4:World}{ns:List Nd}{v u:Value}{t:List UInt8}(hk:Ok w w2)(hlt:rb<w.heap.size)(hB:w.heap.size<=B)(hn:NL w3 B v ns)(hfr:Fr rb (w2.setCell (aD rb 1) u) w3)(hb:bad<0)(hgot:Got S P (a+1) bad ns a' bad')(hri:RI P rb w4 (if isS P a' bad' t then a'+1 else a') (if isS P a' bad' t then bad' else AI P a' bad'))(hf4:Fr rb w3 w4)(hs:S' ns (if isS P a' bad' t then a'+1 else a') (if isS P a' bad' t then bad' else AI P a' bad')):EPx S' P rb w a bad (.returned v) w4:=by refine⟨v,ns,_,_,rfl,za7 (NL.fr hn hf4 (λb hb=>?_)) hB,hri,(((Fr.of hk).set 1 u).trans hfr).trans hf4,Got.take hb (Got.shift hb hgot) t hs,λh0=>by omega⟩;have:=(hn.lt b hb).1;omega
theorem yg1(P:RP)(rb:Nat)(w:World)(a:Nat)(bad:Int)(hG:GT P)(m:Nat)(hE:∀k,k<m->FH P rb k)(hm:(P.ts.length-a)*10+2<=m)(h:RI P rb w a bad)(hb0:bad<0)(x:Tk)(hx:P.ts[a]?=some x)(hk:¬x.1=1)(hi2:isS P a bad [116,114,117,101]=true):Calls Tryz.prog 137 #[pA rb 0] w (EPx (ExS P 7 a bad) P rb w a bad):=by
 have H:=hid h;have HE:=hid hE;have HM:=hid hm;have HG:=hid hG;have ha:a<P.ts.length:=(List.getElem?_eq_some_iff.1 hx).1;have hlen:(P.ts.length:Nat)<=1000000:=h.lim.1;have HB0:=hid hb0;have hb0':decide (bad<0)=true:=dT_ hb0;have ha':(a:Int)<(P.ts.length:Int):=za5 ha;have ha2:decide (a<P.ts.length)=true:=dT_ ha;have haw:IntKind.i64.wrap ((a:Int)+1)=((a+1:Nat):Int):=zb3 oM;obtain⟨kd,tx,nm,pl⟩:=x;have hk1:((kd:Int)==1)=false:=by rw[beq_eq_false_iff_ne];intro e;exact hk (show kd=1 by omega)
 have HX:Hi (P.ts[a]?=some (kd,tx,nm,pl)):=hx;have HNU:Hi (CI P a bad=false):=zo1 hx hk;clear h hx hk hG hE hm;have HI_2:Hi _:=hi2;clear hi2;go_enter Tryz.func137,Tryz.ntmps137
 go_wp2_with (first|(go_at_call 69;refine plC H.o λw1 HR1 HK1=>?_;obtain⟨f0,f1,f2,f3,z0,z1,z2,z3⟩:=za6 HR1.o.row;have hlt:=HR1.o.lt)|fail)
 obtain⟨g,c,y,b,htv,hg,hy,hb,c0,c1,c2,c3⟩:=HR1.o.tok ha;have e:y=(kd,tx,nm,pl):=by have:=HX.o;rw[hy]at this;exact Option.some.inj this
 subst e;simp only at c0 c1 c2 c3;rw[htv]at f0;clear htv hb hy;go_quiet (fail);obtain⟨w9,hw9⟩:=qq (w1.drewN nq);rw[<-hw9];have HR9:Hi (RI P rb w9 a bad):=by rw[hw9];exact HR1.o.ok ((Ok.refl _).draws _)
 have HK9:Hi (Ok w w9):=by rw[hw9];exact HK1.o.draws _
 clear hw9 f0 f1 f2 f3 z0 z1 z2 z3 hlt;clear c0 c1 c2 c3 hg
 go_wp2_with (first
  |(go_at_call_of 39 ((⟨#[116,114,117,101]⟩:ByteArray));refine isC HR9.o HK9.o HI_2.o λw2 HR2 HK2=>?_;obtain⟨f0,f1,f2,f3,z0,z1,z2,z3⟩:=za6 HR2.o.row;have hlt:=HR2.o.lt)
  |(go_at_call 72;refine(zc3 _ ⟨0,11,⟨#[]⟩,1,0,(plS P a:Nat)⟩ _ [] (HD.none _) (by simp[held]) (by simp)).mono ?_;rintro e w7 ⟨v4,rfl,hn4,hok⟩;have HF:Hi (EPx (ExS P 7 a bad) P rb w a bad (.returned v4) w7):=zr1 ((Fr.of HK2.o).set 1 _) (HR2.o.setAt (a+1) ha) HB0.o hn4 (by have:=HK2.o.le;simpa using this) hok ⟨Nat.zero_le _,by simp,by simp,by simp⟩ (ExS.tru HNU.o HI_2.o);clear hn4 hok)
  | fail)
 go_ret;exact HF.o
theorem zV9(P:RP)(rb:Nat)(w:World)(a:Nat)(bad:Int)(hG:GT P)(m:Nat)(hE:∀k,k<m->FH P rb k)(hm:(P.ts.length-a)*10+2<=m)(h:RI P rb w a bad)(hb0:bad<0)(x:Tk)(hx:P.ts[a]?=some x)(hk:¬x.1=1)(hi2:isS P a bad [116,114,117,101]=false)(hi3:isS P a bad [102,97,108,115,101]=true):Calls Tryz.prog 137 #[pA rb 0] w (EPx (ExS P 7 a bad) P rb w a bad):=by
 have H:=hid h;have HE:=hid hE;have HM:=hid hm;have HG:=hid hG;have ha:a<P.ts.length:=(List.getElem?_eq_some_iff.1 hx).1;have hlen:(P.ts.length:Nat)<=1000000:=h.lim.1;have HB0:=hid hb0;have hb0':decide (bad<0)=true:=dT_ hb0;have ha':(a:Int)<(P.ts.length:Int):=za5 ha;have ha2:decide (a<P.ts.length)=true:=dT_ ha;have haw:IntKind.i64.wrap ((a:Int)+1)=((a+1:Nat):Int):=zb3 oM;obtain⟨kd,tx,nm,pl⟩:=x;have hk1:((kd:Int)==1)=false:=by rw[beq_eq_false_iff_ne];intro e;exact hk (show kd=1 by omega)
 have HX:Hi (P.ts[a]?=some (kd,tx,nm,pl)):=hx;have HNU:Hi (CI P a bad=false):=zo1 hx hk;clear h hx hk hG hE hm;have HI_2:Hi _:=hi2;have HI_3:Hi _:=hi3;clear hi2 hi3;go_enter Tryz.func137,Tryz.ntmps137
 go_wp2_with (first|(go_at_call 69;refine plC H.o λw1 HR1 HK1=>?_;obtain⟨f0,f1,f2,f3,z0,z1,z2,z3⟩:=za6 HR1.o.row;have hlt:=HR1.o.lt)|fail)
 obtain⟨g,c,y,b,htv,hg,hy,hb,c0,c1,c2,c3⟩:=HR1.o.tok ha;have e:y=(kd,tx,nm,pl):=by have:=HX.o;rw[hy]at this;exact Option.some.inj this
 subst e;simp only at c0 c1 c2 c3;rw[htv]at f0;clear htv hb hy;go_quiet (fail);obtain⟨w9,hw9⟩:=qq (w1.drewN nq);rw[<-hw9];have HR9:Hi (RI P rb w9 a bad):=by rw[hw9];exact HR1.o.ok ((Ok.refl _).draws _)
 have HK9:Hi (Ok w w9):=by rw[hw9];exact HK1.o.draws _
 clear hw9 f0 f1 f2 f3 z0 z1 z2 z3 hlt;clear c0 c1 c2 c3 hg
 go_wp2_with (first
  |(go_at_call_of 39 ((⟨#[116,114,117,101]⟩:ByteArray));refine isC HR9.o HK9.o HI_2.o λw2 HR2 HK2=>?_)
  |(go_at_call_of 39 ((⟨#[102,97,108,115,101]⟩:ByteArray));refine isC HR2.o HK2.o HI_3.o λw3 HR3 HK3=>?_;obtain⟨f0,f1,f2,f3,z0,z1,z2,z3⟩:=za6 HR3.o.row;have hlt:=HR3.o.lt)
  |(go_at_call 72;refine(zc3 _ ⟨0,11,⟨#[]⟩,0,0,(plS P a:Nat)⟩ _ [] (HD.none _) (by simp[held]) (by simp)).mono ?_;rintro e w7 ⟨v4,rfl,hn4,hok⟩;have HF:Hi (EPx (ExS P 7 a bad) P rb w a bad (.returned v4) w7):=zr1 ((Fr.of HK3.o).set 1 _) (HR3.o.setAt (a+1) ha) HB0.o hn4 (by have:=HK3.o.le;simpa using this) hok ⟨Nat.zero_le _,by simp,by simp,by simp⟩ (ExS.fls HNU.o HI_2.o HI_3.o);clear hn4 hok)
  | fail)
 go_ret;exact HF.o
theorem zW0(P:RP)(rb:Nat)(w:World)(a:Nat)(bad:Int)(hG:GT P)(m:Nat)(hE:∀k,k<m->FH P rb k)(hm:(P.ts.length-a)*10+2<=m)(h:RI P rb w a bad)(hb0:bad<0)(x:Tk)(hx:P.ts[a]?=some x)(hk:¬x.1=1)(hi2:isS P a bad [116,114,117,101]=false)(hi3:isS P a bad [102,97,108,115,101]=false)(hi4:isS P a bad [40]=true):Calls Tryz.prog 137 #[pA rb 0] w (EPx (ExS P 7 a bad) P rb w a bad):=by
 have H:=hid h;have HE:=hid hE;have HM:=hid hm;have HG:=hid hG;have ha:a<P.ts.length:=(List.getElem?_eq_some_iff.1 hx).1;have hlen:(P.ts.length:Nat)<=1000000:=h.lim.1;have HB0:=hid hb0;have hb0':decide (bad<0)=true:=dT_ hb0;have ha':(a:Int)<(P.ts.length:Int):=za5 ha;have ha2:decide (a<P.ts.length)=true:=dT_ ha;have haw:IntKind.i64.wrap ((a:Int)+1)=((a+1:Nat):Int):=zb3 oM;obtain⟨kd,tx,nm,pl⟩:=x;have hk1:((kd:Int)==1)=false:=by rw[beq_eq_false_iff_ne];intro e;exact hk (show kd=1 by omega)
 have HX:Hi (P.ts[a]?=some (kd,tx,nm,pl)):=hx;have HNU:Hi (CI P a bad=false):=zo1 hx hk;clear h hx hk hG hE hm;have HI_2:Hi _:=hi2;have HI_3:Hi _:=hi3;have HI_4:Hi _:=hi4;clear hi2 hi3 hi4;go_enter Tryz.func137,Tryz.ntmps137
 go_wp2_with (first|(go_at_call 69;refine plC H.o λw1 HR1 HK1=>?_;obtain⟨f0,f1,f2,f3,z0,z1,z2,z3⟩:=za6 HR1.o.row;have hlt:=HR1.o.lt)|fail)
 obtain⟨g,c,y,b,htv,hg,hy,hb,c0,c1,c2,c3⟩:=HR1.o.tok ha;have e:y=(kd,tx,nm,pl):=by have:=HX.o;rw[hy]at this;exact Option.some.inj this
 subst e;simp only at c0 c1 c2 c3;rw[htv]at f0;clear htv hb hy;go_quiet (fail);obtain⟨w9,hw9⟩:=qq (w1.drewN nq);rw[<-hw9];have HR9:Hi (RI P rb w9 a bad):=by rw[hw9];exact HR1.o.ok ((Ok.refl _).draws _)
 have HK9:Hi (Ok w w9):=by rw[hw9];exact HK1.o.draws _
 clear hw9 f0 f1 f2 f3 z0 z1 z2 z3 hlt;clear c0 c1 c2 c3 hg
 go_wp2_with (first
  |(go_at_call_of 39 ((⟨#[116,114,117,101]⟩:ByteArray));refine isC HR9.o HK9.o HI_2.o λw2 HR2 HK2=>?_)
  |(go_at_call_of 39 ((⟨#[102,97,108,115,101]⟩:ByteArray));refine isC HR2.o HK2.o HI_3.o λw3 HR3 HK3=>?_)
  |(go_at_call_of 39 ((⟨#[40]⟩:ByteArray));refine isC HR3.o HK3.o HI_4.o λw4 HR4 HK4=>?_;obtain⟨f0,f1,f2,f3,z0,z1,z2,z3⟩:=za6 HR4.o.row;have hlt:=HR4.o.lt)
  |(go_at_call 74;refine(HE.o ((P.ts.length-(a+1))*10+(9-0)) (by have:=HM.o;omega) _ (a+1) bad 0 dC (HR4.o.setAt (a+1) ha) (nR_ _)).mono ?_;rintro e w7 ⟨v3,ms,a2,bad2,rfl,hnl,hri,hfr,hgot,_⟩;have HQ:Hi (NL w7 (w4.setCell (aD rb 1) (nI ((a+1:Nat):Int))).heap.size v3 ms/\RI P rb w7 a2 bad2/\Fr rb (w4.setCell (aD rb 1) (nI ((a+1:Nat):Int))) w7/\Got (ExS P 0 (a+1) bad) P (a+1) bad ms a2 bad2):=⟨hnl,hri,hfr,hgot⟩;clear hnl hri hfr hgot f0 f1 f2 f3 z0 z1 z2 z3 hlt)
  |(go_at_call 71;refine mq (zc5 P rb _ a2 bad2 _ HQ.o.2.1) λw8 ⟨hr8,hf8⟩=>?_;have HF:Hi (EPx (ExS P 7 a bad) P rb w a bad (.returned v3) w8):=yg0 HK4.o H.o.lt (by have:=HK4.o.le;simpa using this) HQ.o.1 HQ.o.2.2.1 HB0.o HQ.o.2.2.2 hr8 hf8 (ExS.paren (by rw[ByteArray.toList_eq]) ha HNU.o HI_2.o HI_3.o HI_4.o HQ.o.2.2.2.sem);clear hr8 hf8)
  | fail)
 go_ret;exact HF.o
end
section
open Go.RowKit
theorem zu6{s:ByteArray}(hG:GT P)(hs:s.toList=txS P a):s.size<=1000000:=by
 rw[<-zc2,hs];unfold txS
 split
 ·next x hx=>exact(hG.2 x (mG_ hx)).1
 exact zL_ _
theorem yr6{S S':List Nd->Nat->Int->Prop}{w7 w8 w9:World}{ns:List Nd}{n:Nd}{v v4:Value}{o:Obj}{t:List UInt8}(hf7:Fr rb w w7)(hf8:Fr rb w7 w8)(hb:bad<0)(hgot:Got S P (a+2) bad ns a' bad')(hri:RI P rb w8 (if isS P a' bad' t then a'+1 else a') (if isS P a' bad' t then bad' else AI P a' bad'))(hn4:NL w9 B v4 (BK n [(v,ns)]))(hB:w.heap.size<=B)(hok:Ok (w8.alloc o) w9)(hn:n.Fit)(hs:S' (BK n [(v,ns)]) (if isS P a' bad' t then a'+1 else a') (if isS P a' bad' t then bad' else AI P a' bad')):EPx S' P rb w a bad (.returned v4) w9:=by have h2:Ok w8 w9:=((Ok.refl w8).alloc o).step hok;exact⟨v4,_,_,_,rfl,za7 hn4 hB,hri.ok h2,(hf7.trans hf8).trans (Fr.of h2),Got.node1 hb (Got.take (S':=λ_ _ _=>True) hb (Got.shift hb hgot) t trivial) hn hs,λh0=>by omega⟩
theorem yg2(P:RP)(rb:Nat)(w:World)(a:Nat)(bad:Int)(hG:GT P)(m:Nat)(hE:∀k,k<m->FH P rb k)(hm:(P.ts.length-a)*10+2<=m)(h:RI P rb w a bad)(hb0:bad<0)(x:Tk)(hx:P.ts[a]?=some x)(hk:¬x.1=1)(hi2:isS P a bad [116,114,117,101]=false)(hi3:isS P a bad [102,97,108,115,101]=false)(hi4:isS P a bad [40]=false)(hn:CK P a bad=false):Calls Tryz.prog 137 #[pA rb 0] w (EPx (ExS P 7 a bad) P rb w a bad):=by
 have H:=hid h;have HE:=hid hE;have HM:=hid hm;have HG:=hid hG;have ha:a<P.ts.length:=(List.getElem?_eq_some_iff.1 hx).1;have hlen:(P.ts.length:Nat)<=1000000:=h.lim.1;have HB0:=hid hb0;have hb0':decide (bad<0)=true:=dT_ hb0;have ha':(a:Int)<(P.ts.length:Int):=za5 ha;have ha2:decide (a<P.ts.length)=true:=dT_ ha;have haw:IntKind.i64.wrap ((a:Int)+1)=((a+1:Nat):Int):=zb3 oM;obtain⟨kd,tx,nm,pl⟩:=x;have hk1:((kd:Int)==1)=false:=by rw[beq_eq_false_iff_ne];intro e;exact hk (show kd=1 by omega)
 have HX:Hi (P.ts[a]?=some (kd,tx,nm,pl)):=hx;have HNU:Hi (CI P a bad=false):=zo1 hx hk;clear h hx hk hG hE hm;have HI_2:Hi _:=hi2;have HI_3:Hi _:=hi3;have HI_4:Hi _:=hi4;clear hi2 hi3 hi4;have HN:=hid hn;clear hn;go_enter Tryz.func137,Tryz.ntmps137
 go_wp2_with (first|(go_at_call 69;refine plC H.o λw1 HR1 HK1=>?_;obtain⟨f0,f1,f2,f3,z0,z1,z2,z3⟩:=za6 HR1.o.row;have hlt:=HR1.o.lt)|fail)
 obtain⟨g,c,y,b,htv,hg,hy,hb,c0,c1,c2,c3⟩:=HR1.o.tok ha;have e:y=(kd,tx,nm,pl):=by have:=HX.o;rw[hy]at this;exact Option.some.inj this
 subst e;simp only at c0 c1 c2 c3;rw[htv]at f0;clear htv hb hy;go_quiet (fail);obtain⟨w9,hw9⟩:=qq (w1.drewN nq);rw[<-hw9];have HR9:Hi (RI P rb w9 a bad):=by rw[hw9];exact HR1.o.ok ((Ok.refl _).draws _)
 have HK9:Hi (Ok w w9):=by rw[hw9];exact HK1.o.draws _
 clear hw9 f0 f1 f2 f3 z0 z1 z2 z3 hlt;clear c0 c1 c2 c3 hg
 go_wp2_with (first
  |(go_at_call_of 39 ((⟨#[116,114,117,101]⟩:ByteArray));refine isC HR9.o HK9.o HI_2.o λw2 HR2 HK2=>?_)
  |(go_at_call_of 39 ((⟨#[102,97,108,115,101]⟩:ByteArray));refine isC HR2.o HK2.o HI_3.o λw3 HR3 HK3=>?_)
  |(go_at_call_of 39 ((⟨#[40]⟩:ByteArray));refine isC HR3.o HK3.o HI_4.o λw4 HR4 HK4=>?_)
  |(go_at_call 107;refine mq (zi4 P rb _ a bad HR4.o) λw5 hok=>?_;rw[HN.o];have HR5:Hi (RI P rb w5 a bad):=HR4.o.ok hok;have HK5:Hi (Ok w w5):=HK4.o.step hok;clear hok)
  |(go_at_call 73;refine mq (zn1 P rb _ a bad HR5.o) λw6 ⟨hr9,hf9⟩=>?_;have HF:Hi (EPx (ExS P 7 a bad) P rb w a bad (.returned (sZ)) w6):=zB0 HK5.o hr9 hf9 (ExS.nil HNU.o HI_2.o HI_3.o HI_4.o HN.o);clear hr9 hf9)
  | fail)
 go_ret;exact HF.o
theorem yg3(P:RP)(rb:Nat)(w:World)(a:Nat)(bad:Int)(hG:GT P)(m:Nat)(hE:∀k,k<m->FH P rb k)(hm:(P.ts.length-a)*10+2<=m)(h:RI P rb w a bad)(hb0:bad<0)(x:Tk)(hx:P.ts[a]?=some x)(hk:¬x.1=1)(hi2:isS P a bad [116,114,117,101]=false)(hi3:isS P a bad [102,97,108,115,101]=false)(hi4:isS P a bad [40]=false)(hn:CK P a bad=true)(hi8:isS P (a+1) bad [91]=false):Calls Tryz.prog 137 #[pA rb 0] w (EPx (ExS P 7 a bad) P rb w a bad):=by
 have H:=hid h;have HE:=hid hE;have HM:=hid hm;have HG:=hid hG;have ha:a<P.ts.length:=(List.getElem?_eq_some_iff.1 hx).1;have hlen:(P.ts.length:Nat)<=1000000:=h.lim.1;have HB0:=hid hb0;have hb0':decide (bad<0)=true:=dT_ hb0;have ha':(a:Int)<(P.ts.length:Int):=za5 ha;have ha2:decide (a<P.ts.length)=true:=dT_ ha;have haw:IntKind.i64.wrap ((a:Int)+1)=((a+1:Nat):Int):=zb3 oM;obtain⟨kd,tx,nm,pl⟩:=x;have hk1:((kd:Int)==1)=false:=by rw[beq_eq_false_iff_ne];intro e;exact hk (show kd=1 by omega)
 have HX:Hi (P.ts[a]?=some (kd,tx,nm,pl)):=hx;have HNU:Hi (CI P a bad=false):=zo1 hx hk;clear h hx hk hG hE hm;have HI_2:Hi _:=hi2;have HI_3:Hi _:=hi3;have HI_4:Hi _:=hi4;clear hi2 hi3 hi4;have HN:=hid hn;have HI_8:Hi _:=hi8;clear hn hi8;go_enter Tryz.func137,Tryz.ntmps137
 go_wp2_with (first|(go_at_call 69;refine plC H.o λw1 HR1 HK1=>?_;obtain⟨f0,f1,f2,f3,z0,z1,z2,z3⟩:=za6 HR1.o.row;have hlt:=HR1.o.lt)|fail)
 obtain⟨g,c,y,b,htv,hg,hy,hb,c0,c1,c2,c3⟩:=HR1.o.tok ha;have e:y=(kd,tx,nm,pl):=by have:=HX.o;rw[hy]at this;exact Option.some.inj this
 subst e;simp only at c0 c1 c2 c3;rw[htv]at f0;clear htv hb hy;go_quiet (fail);obtain⟨w9,hw9⟩:=qq (w1.drewN nq);rw[<-hw9];have HR9:Hi (RI P rb w9 a bad):=by rw[hw9];exact HR1.o.ok ((Ok.refl _).draws _)
 have HK9:Hi (Ok w w9):=by rw[hw9];exact HK1.o.draws _
 clear hw9 f0 f1 f2 f3 z0 z1 z2 z3 hlt;clear c0 c1 c2 c3 hg
 go_wp2_with (first
  |(go_at_call_of 39 ((⟨#[116,114,117,101]⟩:ByteArray));refine isC HR9.o HK9.o HI_2.o λw2 HR2 HK2=>?_)
  |(go_at_call_of 39 ((⟨#[102,97,108,115,101]⟩:ByteArray));refine isC HR2.o HK2.o HI_3.o λw3 HR3 HK3=>?_)
  |(go_at_call_of 39 ((⟨#[40]⟩:ByteArray));refine isC HR3.o HK3.o HI_4.o λw4 HR4 HK4=>?_)
  |(go_at_call 107;refine mq (zi4 P rb _ a bad HR4.o) λw5 hok=>?_;rw[HN.o];have HR5:Hi (RI P rb w5 a bad):=HR4.o.ok hok;have HK5:Hi (Ok w w5):=HK4.o.step hok;clear hok)
  |(go_at_call 70;refine(zi5 P rb _ a bad HR5.o).mono ?_;rintro e w6 ⟨s,rfl,hs,hr6,hf6⟩;have HNA:Hi (s=naT P a bad):=zq8 hs;rw[HN.o]at hs hr6;simp only[if_true]at hs hr6;have HR6:Hi (RI P rb w6 (a+1) bad):=hr6;have HF6:Hi (Fr rb w w6):=(Fr.of HK5.o).trans hf6;have HSZ:Hi (s.size<=1000000):=zu6 HG.o hs;clear hs hr6 hf6)
  |(go_at_call_of 39 ((⟨#[91]⟩:ByteArray));refine mq (zb1 P rb _ (a+1) bad _ HR6.o) λw8 hok=>?_;rw[show isS P (a+1) bad (⟨#[91]⟩:ByteArray).toList=false by(rw[ByteArray.toList_eq];exact HI_8.o)];have HR8:Hi (RI P rb w8 (a+1) bad):=HR6.o.ok hok;have HF8:Hi (Fr rb w w8):=HF6.o.trans (Fr.of hok);clear hok)
  |(go_at_call 72;refine(zc3 _ ⟨0,12,s,0,0,(plS P a:Nat)⟩ _ [] (HD.none _) (by simp[held]) (by simp)).mono ?_;rintro e w7 ⟨v4,rfl,hn4,hok⟩;have HF:Hi (EPx (ExS P 7 a bad) P rb w a bad (.returned v4) w7):=zr1 HF8.o HR8.o HB0.o hn4 HF8.o.le hok ⟨HSZ.o,by simp,by simp,by simp⟩ (ExS.read HNU.o HI_2.o HI_3.o HI_4.o HN.o HI_8.o HNA.o);clear hn4 hok)
  | fail)
 go_ret;exact HF.o
theorem yg4(P:RP)(rb:Nat)(w:World)(a:Nat)(bad:Int)(hG:GT P)(m:Nat)(hE:∀k,k<m->FH P rb k)(hm:(P.ts.length-a)*10+2<=m)(h:RI P rb w a bad)(hb0:bad<0)(x:Tk)(hx:P.ts[a]?=some x)(hk:¬x.1=1)(hi2:isS P a bad [116,114,117,101]=false)(hi3:isS P a bad [102,97,108,115,101]=false)(hi4:isS P a bad [40]=false)(hn:CK P a bad=true)(hi8:isS P (a+1) bad [91]=true):Calls Tryz.prog 137 #[pA rb 0] w (EPx (ExS P 7 a bad) P rb w a bad):=by
 have H:=hid h;have HE:=hid hE;have HM:=hid hm;have HG:=hid hG;have ha:a<P.ts.length:=(List.getElem?_eq_some_iff.1 hx).1;have hlen:(P.ts.length:Nat)<=1000000:=h.lim.1;have HB0:=hid hb0;have hb0':decide (bad<0)=true:=dT_ hb0;have ha':(a:Int)<(P.ts.length:Int):=za5 ha;have ha2:decide (a<P.ts.length)=true:=dT_ ha;have haw:IntKind.i64.wrap ((a:Int)+1)=((a+1:Nat):Int):=zb3 oM;obtain⟨kd,tx,nm,pl⟩:=x;have hk1:((kd:Int)==1)=false:=by rw[beq_eq_false_iff_ne];intro e;exact hk (show kd=1 by omega)
 have HX:Hi (P.ts[a]?=some (kd,tx,nm,pl)):=hx;have HNU:Hi (CI P a bad=false):=zo1 hx hk;clear h hx hk hG hE hm;have HI_2:Hi _:=hi2;have HI_3:Hi _:=hi3;have HI_4:Hi _:=hi4;clear hi2 hi3 hi4;have HN:=hid hn;have HI_8:Hi _:=hi8;clear hn hi8;have hal2:a+2<=P.ts.length:=(zb9 HI_8.o).2;have hw2:IntKind.i64.wrap ((a:Int)+1+1)=((a+2:Nat):Int):=zd3 oM oM;go_enter Tryz.func137,Tryz.ntmps137
 go_wp2_with (first|(go_at_call 69;refine plC H.o λw1 HR1 HK1=>?_;obtain⟨f0,f1,f2,f3,z0,z1,z2,z3⟩:=za6 HR1.o.row;have hlt:=HR1.o.lt)|fail)
 obtain⟨g,c,y,b,htv,hg,hy,hb,c0,c1,c2,c3⟩:=HR1.o.tok ha;have e:y=(kd,tx,nm,pl):=by have:=HX.o;rw[hy]at this;exact Option.some.inj this
 subst e;simp only at c0 c1 c2 c3;rw[htv]at f0;clear htv hb hy;go_quiet (fail);obtain⟨w9,hw9⟩:=qq (w1.drewN nq);rw[<-hw9];have HR9:Hi (RI P rb w9 a bad):=by rw[hw9];exact HR1.o.ok ((Ok.refl _).draws _)
 have HK9:Hi (Ok w w9):=by rw[hw9];exact HK1.o.draws _
 clear hw9 f0 f1 f2 f3 z0 z1 z2 z3 hlt;clear c0 c1 c2 c3 hg
 go_wp2_with (first
  |(go_at_call_of 39 ((⟨#[116,114,117,101]⟩:ByteArray));refine isC HR9.o HK9.o HI_2.o λw2 HR2 HK2=>?_)
  |(go_at_call_of 39 ((⟨#[102,97,108,115,101]⟩:ByteArray));refine isC HR2.o HK2.o HI_3.o λw3 HR3 HK3=>?_)
  |(go_at_call_of 39 ((⟨#[40]⟩:ByteArray));refine isC HR3.o HK3.o HI_4.o λw4 HR4 HK4=>?_)
  |(go_at_call 107;refine mq (zi4 P rb _ a bad HR4.o) λw5 hok=>?_;rw[HN.o];have HR5:Hi (RI P rb w5 a bad):=HR4.o.ok hok;have HK5:Hi (Ok w w5):=HK4.o.step hok;clear hok)
  |(go_at_call 70;refine(zi5 P rb _ a bad HR5.o).mono ?_;rintro e w6 ⟨s,rfl,hs,hr6,hf6⟩;have HNA:Hi (s=naT P a bad):=zq8 hs;rw[HN.o]at hs hr6;simp only[if_true]at hs hr6;have HR6:Hi (RI P rb w6 (a+1) bad):=hr6;have HF6:Hi (Fr rb w w6):=(Fr.of HK5.o).trans hf6;have HSZ:Hi (s.size<=1000000):=zu6 HG.o hs;clear hs hr6 hf6)
  |(go_at_call_of 39 ((⟨#[91]⟩:ByteArray));refine mq (zb1 P rb _ (a+1) bad _ HR6.o) λw8 hok=>?_;rw[show isS P (a+1) bad (⟨#[91]⟩:ByteArray).toList=true by(rw[ByteArray.toList_eq];exact HI_8.o)];have HR8:Hi (RI P rb w8 (a+1) bad):=HR6.o.ok hok;have HF8:Hi (Fr rb w w8):=HF6.o.trans (Fr.of hok);obtain⟨f0,f1,f2,f3,z0,z1,z2,z3⟩:=za6 HR8.o.row;have hlt:=HR8.o.lt;clear hok)
  |(go_at_call 74;refine(HE.o ((P.ts.length-(a+2))*10+(9-0)) (by have:=HM.o;omega) _ (a+2) bad 0 dC (HR8.o.setAt (a+2) hal2) (nR_ _)).mono ?_;rintro e w7 ⟨v3,ms,a2,bad2,rfl,hnl,hri,hfr,hgot,_⟩;obtain⟨bo,cq,rfl⟩:=za0 hnl;have HQ:Hi (NL w7 (w8.setCell (aD rb 1) (nI ((a+2:Nat):Int))).heap.size (.slice bo ms.length cq) ms/\RI P rb w7 a2 bad2/\Fr rb (w8.setCell (aD rb 1) (nI ((a+2:Nat):Int))) w7/\Got (ExS P 0 (a+2) bad) P (a+2) bad ms a2 bad2):=⟨hnl,hri,hfr,hgot⟩;clear hnl hri hfr hgot f0 f1 f2 f3 z0 z1 z2 z3 hlt)
  |(go_at_call 71;refine mq (zc5 P rb _ a2 bad2 _ HQ.o.2.1) λw10 ⟨hr8,hf8⟩=>?_;have HT:Hi (RI P rb w10 (if isS P a2 bad2 (⟨#[93]⟩:ByteArray).toList then a2+1 else a2) (if isS P a2 bad2 (⟨#[93]⟩:ByteArray).toList then bad2 else AI P a2 bad2)/\Fr rb w7 w10/\NL w10 0 (.slice bo ms.length cq) ms):=⟨hr8,hf8,(NL.fr HQ.o.1 hf8 (λb hb=>by have h1:=(HQ.o.1.lt b hb).1;have h2:=HR8.o.lt;simp at h1;omega)).base⟩;clear hr8 hf8)
  |(go_at_call 72;refine(zc3 _ ⟨0,13,s,0,0,(plS P a:Nat)⟩ _ [(.slice bo ms.length cq,ms)] (HD.one (za3 _ _) (za1 HT.o.2.2 ((Ok.refl w10).alloc _))) (wq0 HG.o HQ.o.2.2.2 HQ.o.2.1) (by simp)).mono ?_;rintro e w11 ⟨v4,rfl,hn4,hok⟩;have HF:Hi (EPx (ExS P 7 a bad) P rb w a bad (.returned v4) w11):=yr6 ((HF8.o.set 1 _).trans HQ.o.2.2.1) HT.o.2.1 HB0.o HQ.o.2.2.2 HT.o.1 hn4 (by have h1:=HF8.o.le;have h2:=HQ.o.2.2.1.le;have h3:=HT.o.2.1.le;simp at h2 ⊢;omega) hok ⟨HSZ.o,by simp,by simp,by simp⟩ (ExS.load (by rw[ByteArray.toList_eq]) ha HNU.o HI_2.o HI_3.o HI_4.o HN.o HI_8.o HNA.o HQ.o.2.2.2.sem);clear hn4 hok)
  | fail)
 go_ret;exact HF.o
end
end Go.Proofs.YtpongdpnbclchaaGreatDoor
