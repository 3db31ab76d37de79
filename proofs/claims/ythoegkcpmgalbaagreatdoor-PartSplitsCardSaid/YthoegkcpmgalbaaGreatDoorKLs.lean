import Derived.Test.YthoegkcpmgalbaaGreatDoorKLo
set_option maxHeartbeats 8000000
set_option linter.all false
set_option maxRecDepth 100000
namespace Go.Proofs.YthoegkcpmgalbaaGreatDoor
open Go.RowKit
variable{B a a' rb:Nat}{P:RP}{bad bad':Int}{w w2:World}
def zu5(h:¬bad<0\/¬a<P.ts.length)(t:List UInt8):isS P a bad t=false:=by
 unfold isS;rcases h with h | h
 ·rw[aN h,dY]
 rw[aS oM,cL]
def yr4(h:¬bad<0\/¬a<P.ts.length):CN P a bad=false:=by
 unfold CN;rcases h with h | h
 ·rw[aN h,dY]
 rw[aS oM,cL]
def Got.fail{S:List Nd->Nat->Int->Prop}(P:RP)(a:Nat)(bad:Int)(d:S [] a (AF P a bad)):Got S P a bad [] a (AF P a bad) :=
 ⟨Nat.le_refl _,λ_=>.inr (ze7 P a bad),λD=>⟨Nat.zero_le _,rfl,by unfold AF;rw[aC oM]⟩,λ_=>dQ _,λn o=>(by cases o),d⟩
def zB0{S:List Nd->Nat->Int->Prop}{d:World}(I:Ok w d)(G:RI P rb w2 a (AF P a bad))(o:Fr rb d w2)(D:S [] a (AF P a bad)):EPx S P rb w a bad (.returned (sZ)) w2 :=
 ⟨_,[],a,_,rfl,World.ownsRow_nil _ _ _ _,G,(Fr.of I).trans o,Got.fail P a bad D,λ_=>rfl⟩
def Got.leaf{S:List Nd->Nat->Int->Prop}{n:Nd}(D:bad<0)(d:n.Fit)(G:S (BJ n []) (a+1) bad):Got S P a bad (BJ n []) (a+1) bad:=by
 refine⟨oM,λ_=>.inl oM,λI=>oM,λ_=>?_,?_,G⟩
 ·rw[aG D];simp[BJ,held]
 intro x o;simp[BJ,held]at o;subst o;exact⟨d.name,by simp,by simp,d.num⟩
def zr1{S:List Nd->Nat->Int->Prop}{G:World}{n:Nd}{o:Value}(L:Fr rb w w2)(R:RI P rb w2 (a+1) bad)(I:bad<0)(D:NL G B o (BJ n []))(J:w.heap.size<=B)(d:Ok w2 G)(K:n.Fit)(O:S (BJ n []) (a+1) bad):EPx S P rb w a bad (.returned o) G :=
 ⟨o,_,a+1,bad,rfl,za7 D J,R.ok d,L.trans (Fr.of d),Got.leaf I K O,λW=>oM⟩
def zB1(h:¬bad<0\/¬a<P.ts.length):CF P a bad=false:=by
 unfold CF;rcases h with h | h
 ·rw[aN h,dY]
 rw[aS oM,cL]
def zR2(P:RP)(rb:Nat)(w:World)(a:Nat)(bad:Int)(h:RI P rb w a bad)(W:¬bad<0\/¬a<P.ts.length):Calls Tryz.prog 148 #[pA rb 0] w (EPx (ExS P 7 a bad) P rb w a bad):=by
 have H:=hid h;have J:Hi (isS P a bad [116,114,117,101]=false):=zu5 W _;have I:Hi (isS P a bad [102,97,108,115,101]=false):=zu5 W _;have K:Hi (isS P a bad [40]=false):=zu5 W _;have HN:=hid (yr4 W);have b2:=hid (zB1 W);have b3:(P.ts.length:Nat)<=1000000:=h.lim.1;obtain⟨ao,cap,d⟩:=za0 h.own;have b0:=hid d;clear h d;by_cases a4:bad<0
 ·have b1:decide (bad<0)=true:=dT_ a4
  have ha:¬a<P.ts.length:=by rcases W with h | h;exact absurd a4 h;exact h
  have b5:¬(a:Int)<(P.ts.length:Int):=zb2 ha;have b4:decide (a<P.ts.length)=false:=dF_ ha;clear W;go_enter Tryz.func148,Tryz.ntmps148
  go_wp2_with (first|(go_at_call 72;refine plC H.o λw1 G a5=>?_;obtain⟨f0,f1,f2,f3,z0,z1,z2,z3⟩:=za6 G.o.row;have a3:=G.o.lt)|fail)
  rw[b0.o]at f0;go_quiet (fail);obtain⟨w9,d⟩:=qq (w1.drewN nq);rw[<-d];have Y:Hi (RI P rb w9 a bad):=by rw[d];exact G.o.ok ((Ok.refl _).draws _)
  have a7:Hi (Ok w w9):=by rw[d];exact a5.o.draws _
  clear d f0 f1 f2 f3 z0 z1 z2 z3 a3
  go_wp2_with (first
   |(go_at_call_of 44 ((⟨#[116,114,117,101]⟩:ByteArray));refine isC Y.o a7.o J.o λw2 a8 a6=>?_)
   |(go_at_call_of 44 ((⟨#[102,97,108,115,101]⟩:ByteArray));refine isC a8.o a6.o I.o λw3 Z a1=>?_)
   |(go_at_call_of 44 ((⟨#[40]⟩:ByteArray));refine isC Z.o a1.o K.o λw4 L a2=>?_)
   |(go_at_call 113;refine mq (zi4 P rb _ a bad L.o) λw5 D=>?_;rw[HN.o];have X:=hid (L.o.ok D);have a9:=hid (a2.o.step D);clear D)
   |(go_at_call 76;refine mq (zn1 P rb _ a bad X.o) λw6 ⟨O,R⟩=>?_;have HF:=hid (zB0 a9.o O R (ExS.nil b2.o J.o I.o K.o HN.o));clear O R)
   | fail)
  go_ret;exact HF.o
 have b1:decide (bad<0)=false:=dF_ a4;clear W;go_enter Tryz.func148,Tryz.ntmps148
 go_wp2_with (first|(go_at_call 72;refine plC H.o λw1 G a5=>?_;obtain⟨f0,f1,f2,f3,z0,z1,z2,z3⟩:=za6 G.o.row;have a3:=G.o.lt)|fail)
 rw[b0.o]at f0;go_quiet (fail);obtain⟨w9,d⟩:=qq (w1.drewN nq);rw[<-d];have Y:Hi (RI P rb w9 a bad):=by rw[d];exact G.o.ok ((Ok.refl _).draws _)
 have a7:Hi (Ok w w9):=by rw[d];exact a5.o.draws _
 clear d f0 f1 f2 f3 z0 z1 z2 z3 a3
 go_wp2_with (first
  |(go_at_call_of 44 ((⟨#[116,114,117,101]⟩:ByteArray));refine isC Y.o a7.o J.o λw2 a8 a6=>?_)
  |(go_at_call_of 44 ((⟨#[102,97,108,115,101]⟩:ByteArray));refine isC a8.o a6.o I.o λw3 Z a1=>?_)
  |(go_at_call_of 44 ((⟨#[40]⟩:ByteArray));refine isC Z.o a1.o K.o λw4 L a2=>?_)
  |(go_at_call 113;refine mq (zi4 P rb _ a bad L.o) λw5 D=>?_;rw[HN.o];have X:=hid (L.o.ok D);have a9:=hid (a2.o.step D);clear D)
  |(go_at_call 76;refine mq (zn1 P rb _ a bad X.o) λw6 ⟨O,R⟩=>?_;have HF:=hid (zB0 a9.o O R (ExS.nil b2.o J.o I.o K.o HN.o));clear O R)
  | fail)
 go_ret;exact HF.o
def yr5(P:RP)(rb:Nat)(w:World)(a:Nat)(bad:Int)(G:GT P)(h:RI P rb w a bad)(a1:bad<0)(x:Tk)(D:P.ts[a]?=some x)(I:x.1=1):Calls Tryz.prog 148 #[pA rb 0] w (EPx (ExS P 7 a bad) P rb w a bad):=by
 have H:=hid h;have ha:a<P.ts.length:=(aE.1 D).1;have a9:(P.ts.length:Nat)<=1000000:=h.lim.1;obtain⟨ao,cap,d⟩:=za0 h.own;have Z:=hid a1;have a8:decide (bad<0)=true:=dT_ a1;have b3:(a:Int)<(P.ts.length:Int):=za5 ha;have b2:decide (a<P.ts.length)=true:=dT_ ha;have b4:IntKind.i64.wrap ((a:Int)+1)=((a+1:Nat):Int):=zb3 oM;have b0:IntKind.i64.wrap (((a+1:Nat):Int)-1)=(a:Int):=zd3 oM oM;have b1:IntKind.i64.wrap (a:Int)=(a:Int):=zd3 rfl oM;have a7:IntKind.i64.wrap ((a:Int)+1-1)=(a:Int):=zd3 oM oM;obtain⟨kd,tx,nm,pl⟩:=x;have a4:kd=1:=I;subst a4;have HX:=hid D;have a2:Hi (∀z:Int,(⟨0,10,⟨#[]⟩,nm,0,z⟩:Nd).Fit):=λz=>⟨Nat.zero_le _,by simp,by simp,(G.2 _ (eC D)).2⟩;clear h d D I G;go_enter Tryz.func148,Tryz.ntmps148
 go_wp2_with (first|(go_at_call 72;refine plC H.o λw1 I a5=>?_;obtain⟨K,X,Y,f3,z0,z1,z2,z3⟩:=za6 I.o.row;have G:=I.o.lt)|fail)
 obtain⟨g,c,y,b,d,hg,hy,hb,c0,c1,R,c3⟩:=I.o.tok ha;have e:y=(1,tx,nm,pl):=by have:=HX.o;rw[hy]at this;exact aI this
 subst e;simp only at c0 c1 R c3;rw[d]at K;have a3:Hi (P.tv=.slice (sA g 0) P.ts.length c/\g<w1.heap.size):=⟨d,hg⟩;clear d hb hy;go_quiet (fail);obtain⟨w9,D⟩:=qq (w1.drewN nq);rw[<-D];have L:Hi (RI P rb w9 a bad):=by rw[D];exact I.o.ok ((Ok.refl _).draws _)
 have a6:Hi (Ok w w9):=by rw[D];exact a5.o.draws _
 clear D K X Y f3 z0 z1 z2 z3 G;clear c0 c1 R c3 hg;obtain⟨K,X,Y,f3,z0,z1,z2,z3⟩:=za6 L.o.row;have G:=L.o.lt;go_wp2_with fail;obtain⟨W,O⟩:=qq (w9.setCell ⟨rb,1,none⟩ (nI ((a+1:Nat):Int)));have D:Hi (RI P rb W (a+1) bad/\Fr rb w W):=by unfold Hi;rw[O];exact⟨L.o.setAt (a+1) ha,(Fr.of a6.o).set 1 _⟩
 have J:w9.setCell (aD rb 1) (nI ((a:Int)+1))=W:=by rw[O];rfl
 rw[J];clear K X Y f3 z0 z1 z2 z3 G O J;obtain⟨K,X,Y,f3,z0,z1,z2,z3⟩:=za6 D.o.1.row;obtain⟨g',c',y,b',d,hg,hy,hb,c0,c1,R,c3⟩:=RI.tokAt D.o.1 ha;have e:y=(1,tx,nm,pl):=by have:=HX.o;rw[hy]at this;exact aI this
 subst e;have O:=d.symm.trans a3.o.1
 injection O with e1 _ e3
 injection e1 with e1
 injection e1 with e1
 subst e1 e3;rw[d]at K;simp only at R;have J:=D.o.1.lt;clear hy hb d c0 c1 c3 Y f3
 go_region_held3 (λw'=>w'.cell? (aD rb 0)=some (.slice (sA g' 0) P.ts.length c')/\w'.cell? (aD rb 1)=some (nI ((a+1:Nat):Int))/\w'.cell? ⟨g',a*4+2,none⟩=some (nI nm))
  (first|(exact⟨K,X,R⟩) | (exact⟨d0,d1,d2⟩) | go_keep)
  (first
  |(go_at_call 75;refine(Calls.mono (zc3 _ ⟨0,10,⟨#[]⟩,nm,0,(plS P a:Nat)⟩ _ [] (HD.none _) (by simp[held]) (by simp)) ?_);rintro e w4 ⟨v4,rfl,Y,d⟩;have G:Hi (Ok W w4):=(by first | exact d | exact Ok.step ((Ok.refl W).draws _) d | exact Ok.step (Below.drew (Ok.refl W)) d);have HF:Hi (EPx (ExS P 7 a bad) P rb w a bad (.returned v4) w4):=zr1 D.o.2 D.o.1 Z.o Y (by have:=D.o.2.le;first | exact this | simpa using this) G.o (a2.o _) (ExS.num Z.o HX.o rfl);have d0:=G.o.cell (p:=⟨rb,0,none⟩) J K;have d1:=G.o.cell (p:=⟨rb,1,none⟩) J X;have d2:=G.o.cell (p:=⟨g',a*4+2,none⟩) hg R;clear d Y)
  | fail)
 go_wp2_with fail;go_ret;exact HF.o
def Got.shift{S:List Nd->Nat->Int->Prop}{ns:List Nd}(d:bad<0)(h:Got S P (a+1) bad ns a' bad'):Got S P a bad ns a' bad':=by
 have G:=h.le;refine⟨oM,λ_=>.inl oM,λD=>oM,λ_=>?_,h.fit,h.sem⟩;have o:=h.len d
 split at o<;>(split<;>omega)
def Got.take{S S':List Nd->Nat->Int->Prop}{ns:List Nd}(G:bad<0)(h:Got S P a bad ns a' bad')(t:List UInt8)(d:S' ns (if isS P a' bad' t then a'+1 else a') (if isS P a' bad' t then bad' else AF P a' bad')):Got S' P a bad ns (if isS P a' bad' t then a'+1 else a') (if isS P a' bad' t then bad' else AF P a' bad'):=by
 have I:=h.le;have o:=h.len G
 revert d
 cases J:isS P a' bad' t with
 | true =>
  have:=(zb9 J).1;simp only[dD];intro d;refine⟨oM,λ_=>.inl oM,λD=>oM,λ_=>?_,h.fit,d⟩;rw[aG this]at o ⊢;omega
 | false =>
  have:=ze7 P a' bad';simp only[bL,cT];intro d;refine⟨I,λ_=>.inr this,λD=>oM,λ_=>?_,h.fit,d⟩;rw[aC oM]
  split at o<;>omega
def yg0{S S':List Nd->Nat->Int->Prop}{K I:World}{ns:List Nd}{v u:Value}{t:List UInt8}(X:Ok w w2)(R:rb<w.heap.size)(O:w.heap.size<=B)(L:NL K B v ns)(G:Fr rb (w2.setCell (aD rb 1) u) K)(D:bad<0)(o:Got S P (a+1) bad ns a' bad')(J:RI P rb I (if isS P a' bad' t then a'+1 else a') (if isS P a' bad' t then bad' else AF P a' bad'))(d:Fr rb K I)(W:S' ns (if isS P a' bad' t then a'+1 else a') (if isS P a' bad' t then bad' else AF P a' bad')):EPx S' P rb w a bad (.returned v) I:=by refine⟨v,ns,_,_,rfl,za7 (NL.fr L d (λb D=>?_)) O,J,(((Fr.of X).set 1 u).trans G).trans d,Got.take D (Got.shift D o) t W,λY=>oM⟩;have:=(L.lt b D).1;omega
def yg1(P:RP)(rb:Nat)(w:World)(a:Nat)(bad:Int)(L:GT P)(m:Nat)(J:∀k,k<m->FP P rb k)(I:(P.ts.length-a)*10+2<=m)(h:RI P rb w a bad)(K:bad<0)(x:Tk)(D:P.ts[a]?=some x)(G:¬x.1=1)(d:isS P a bad [116,114,117,101]=true):Calls Tryz.prog 148 #[pA rb 0] w (EPx (ExS P 7 a bad) P rb w a bad):=by
 have H:=hid h;have HE:=hid J;have HM:=hid I;have HG:=hid L;have W:a<P.ts.length:=(aE.1 D).1;have a4:(P.ts.length:Nat)<=1000000:=h.lim.1;have X:=hid K;have a3:decide (bad<0)=true:=dT_ K;have a7:(a:Int)<(P.ts.length:Int):=za5 W;have a5:decide (a<P.ts.length)=true:=dT_ W;have a8:IntKind.i64.wrap ((a:Int)+1)=((a+1:Nat):Int):=zb3 oM;obtain⟨R,tx,nm,pl⟩:=x;have a6:((R:Int)==1)=false:=by rw[aF];intro e;exact G (show R=1 by omega)
 have HX:Hi (P.ts[a]?=some (R,tx,nm,pl)):=D;have a2:Hi (CF P a bad=false):=zo1 D G;clear h D G L J I;have G:Hi _:=d;clear d;go_enter Tryz.func148,Tryz.ntmps148
 go_wp2_with (first|(go_at_call 72;refine plC H.o λw1 d Z=>?_;obtain⟨f0,f1,f2,f3,z0,z1,z2,z3⟩:=za6 d.o.row;have J:=d.o.lt)|fail)
 obtain⟨g,c,y,b,D,hg,Y,hb,c0,O,L,I⟩:=d.o.tok W;have e:y=(R,tx,nm,pl):=by have:=HX.o;rw[Y]at this;exact aI this
 subst e;simp only at c0 O L I;rw[D]at f0;clear D hb Y;go_quiet (fail);obtain⟨w9,D⟩:=qq (w1.drewN nq);rw[<-D];have Y:Hi (RI P rb w9 a bad):=by rw[D];exact d.o.ok ((Ok.refl _).draws _)
 have a1:Hi (Ok w w9):=by rw[D];exact Z.o.draws _
 clear D f0 f1 f2 f3 z0 z1 z2 z3 J;clear c0 O L I hg
 go_wp2_with (first
  |(go_at_call_of 44 ((⟨#[116,114,117,101]⟩:ByteArray));refine isC Y.o a1.o G.o λw2 D L=>?_;obtain⟨f0,f1,f2,f3,z0,z1,z2,z3⟩:=za6 D.o.row;have J:=D.o.lt)
  |(go_at_call 75;refine(zc3 _ ⟨0,11,⟨#[]⟩,1,0,(plS P a:Nat)⟩ _ [] (HD.none _) (by simp[held]) (by simp)).mono ?_;rintro e w7 ⟨v4,rfl,O,I⟩;have HF:Hi (EPx (ExS P 7 a bad) P rb w a bad (.returned v4) w7):=zr1 ((Fr.of L.o).set 1 _) (D.o.setAt (a+1) W) X.o O (by have:=L.o.le;simpa using this) I ⟨Nat.zero_le _,by simp,by simp,by simp⟩ (ExS.tru a2.o G.o);clear O I)
  | fail)
 go_ret;exact HF.o
def zV9(P:RP)(rb:Nat)(w:World)(a:Nat)(bad:Int)(L:GT P)(m:Nat)(K:∀k,k<m->FP P rb k)(J:(P.ts.length-a)*10+2<=m)(h:RI P rb w a bad)(O:bad<0)(x:Tk)(G:P.ts[a]?=some x)(I:¬x.1=1)(D:isS P a bad [116,114,117,101]=false)(d:isS P a bad [102,97,108,115,101]=true):Calls Tryz.prog 148 #[pA rb 0] w (EPx (ExS P 7 a bad) P rb w a bad):=by
 have H:=hid h;have HE:=hid K;have HM:=hid J;have HG:=hid L;have X:a<P.ts.length:=(aE.1 G).1;have a7:(P.ts.length:Nat)<=1000000:=h.lim.1;have Y:=hid O;have a6:decide (bad<0)=true:=dT_ O;have a9:(a:Int)<(P.ts.length:Int):=za5 X;have a8:decide (a<P.ts.length)=true:=dT_ X;have b1:IntKind.i64.wrap ((a:Int)+1)=((a+1:Nat):Int):=zb3 oM;obtain⟨W,tx,nm,pl⟩:=x;have b0:((W:Int)==1)=false:=by rw[aF];intro e;exact I (show W=1 by omega)
 have HX:Hi (P.ts[a]?=some (W,tx,nm,pl)):=G;have a5:Hi (CF P a bad=false):=zo1 G I;clear h G I L K J;have I:Hi _:=D;have G:Hi _:=d;clear D d;go_enter Tryz.func148,Tryz.ntmps148
 go_wp2_with (first|(go_at_call 72;refine plC H.o λw1 D a1=>?_;obtain⟨f0,f1,f2,f3,z0,z1,z2,z3⟩:=za6 D.o.row;have L:=D.o.lt)|fail)
 obtain⟨g,c,y,b,d,hg,Z,hb,c0,R,K,J⟩:=D.o.tok X;have e:y=(W,tx,nm,pl):=by have:=HX.o;rw[Z]at this;exact aI this
 subst e;simp only at c0 R K J;rw[d]at f0;clear d hb Z;go_quiet (fail);obtain⟨w9,d⟩:=qq (w1.drewN nq);rw[<-d];have Z:Hi (RI P rb w9 a bad):=by rw[d];exact D.o.ok ((Ok.refl _).draws _)
 have a3:Hi (Ok w w9):=by rw[d];exact a1.o.draws _
 clear d f0 f1 f2 f3 z0 z1 z2 z3 L;clear c0 R K J hg
 go_wp2_with (first
  |(go_at_call_of 44 ((⟨#[116,114,117,101]⟩:ByteArray));refine isC Z.o a3.o I.o λw2 a4 a2=>?_)
  |(go_at_call_of 44 ((⟨#[102,97,108,115,101]⟩:ByteArray));refine isC a4.o a2.o G.o λw3 d K=>?_;obtain⟨f0,f1,f2,f3,z0,z1,z2,z3⟩:=za6 d.o.row;have L:=d.o.lt)
  |(go_at_call 75;refine(zc3 _ ⟨0,11,⟨#[]⟩,0,0,(plS P a:Nat)⟩ _ [] (HD.none _) (by simp[held]) (by simp)).mono ?_;rintro e w7 ⟨v4,rfl,R,J⟩;have HF:Hi (EPx (ExS P 7 a bad) P rb w a bad (.returned v4) w7):=zr1 ((Fr.of K.o).set 1 _) (d.o.setAt (a+1) X) Y.o R (by have:=K.o.le;simpa using this) J ⟨Nat.zero_le _,by simp,by simp,by simp⟩ (ExS.fls a5.o I.o G.o);clear R J)
  | fail)
 go_ret;exact HF.o
def zW0(P:RP)(rb:Nat)(w:World)(a:Nat)(bad:Int)(O:GT P)(m:Nat)(L:∀k,k<m->FP P rb k)(K:(P.ts.length-a)*10+2<=m)(h:RI P rb w a bad)(a1:bad<0)(x:Tk)(I:P.ts[a]?=some x)(J:¬x.1=1)(G:isS P a bad [116,114,117,101]=false)(D:isS P a bad [102,97,108,115,101]=false)(d:isS P a bad [40]=true):Calls Tryz.prog 148 #[pA rb 0] w (EPx (ExS P 7 a bad) P rb w a bad):=by
 have H:=hid h;have HE:=hid L;have HM:=hid K;have HG:=hid O;have ha:a<P.ts.length:=(aE.1 I).1;have b5:(P.ts.length:Nat)<=1000000:=h.lim.1;have a5:=hid a1;have b4:decide (bad<0)=true:=dT_ a1;have b8:(a:Int)<(P.ts.length:Int):=za5 ha;have b6:decide (a<P.ts.length)=true:=dT_ ha;have b9:IntKind.i64.wrap ((a:Int)+1)=((a+1:Nat):Int):=zb3 oM;obtain⟨kd,tx,nm,pl⟩:=x;have b7:((kd:Int)==1)=false:=by rw[aF];intro e;exact J (show kd=1 by omega)
 have HX:Hi (P.ts[a]?=some (kd,tx,nm,pl)):=I;have b3:Hi (CF P a bad=false):=zo1 I J;clear h I J O L K;have J:Hi _:=G;have I:Hi _:=D;have K:Hi _:=d;clear G D d;go_enter Tryz.func148,Tryz.ntmps148
 go_wp2_with (first|(go_at_call 72;refine plC H.o λw1 D a9=>?_;obtain⟨f0,f1,f2,f3,z0,z1,z2,z3⟩:=za6 D.o.row;have O:=D.o.lt)|fail)
 obtain⟨g,c,y,b,d,Z,W,Y,X,R,L,G⟩:=D.o.tok ha;have e:y=(kd,tx,nm,pl):=by have:=HX.o;rw[W]at this;exact aI this
 subst e;simp only at X R L G;rw[d]at f0;clear d Y W;go_quiet (fail);obtain⟨w9,d⟩:=qq (w1.drewN nq);rw[<-d];have a6:Hi (RI P rb w9 a bad):=by rw[d];exact D.o.ok ((Ok.refl _).draws _)
 have b1:Hi (Ok w w9):=by rw[d];exact a9.o.draws _
 clear d f0 f1 f2 f3 z0 z1 z2 z3 O;clear X R L G Z
 go_wp2_with (first
  |(go_at_call_of 44 ((⟨#[116,114,117,101]⟩:ByteArray));refine isC a6.o b1.o J.o λw2 b2 b0=>?_)
  |(go_at_call_of 44 ((⟨#[102,97,108,115,101]⟩:ByteArray));refine isC b2.o b0.o I.o λw3 a8 a7=>?_)
  |(go_at_call_of 44 ((⟨#[40]⟩:ByteArray));refine isC a8.o a7.o K.o λw4 L Y=>?_;obtain⟨f0,f1,f2,f3,z0,z1,z2,z3⟩:=za6 L.o.row;have O:=L.o.lt)
  |(go_at_call 77;refine(HE.o ((P.ts.length-(a+1))*10+(9-0)) (oH HM.o) _ (a+1) bad 0 dC (L.o.setAt (a+1) ha) (nR_ _)).mono ?_;rintro e w7 ⟨v3,ms,a2,d,rfl,a4,X,a3,G,_⟩;have Z:Hi (NL w7 (w4.setCell (aD rb 1) (nI ((a+1:Nat):Int))).heap.size v3 ms/\RI P rb w7 a2 d/\Fr rb (w4.setCell (aD rb 1) (nI ((a+1:Nat):Int))) w7/\Got (ExS P 0 (a+1) bad) P (a+1) bad ms a2 d):=⟨a4,X,a3,G⟩;clear a4 X a3 G f0 f1 f2 f3 z0 z1 z2 z3 O)
  |(go_at_call 74;refine mq (zc5 P rb _ a2 d _ Z.o.2.1) λw8 ⟨R,W⟩=>?_;have HF:Hi (EPx (ExS P 7 a bad) P rb w a bad (.returned v3) w8):=yg0 Y.o H.o.lt (by have:=Y.o.le;simpa using this) Z.o.1 Z.o.2.2.1 a5.o Z.o.2.2.2 R W (ExS.paren (by rw[ByteArray.toList_eq]) ha b3.o J.o I.o K.o Z.o.2.2.2.sem);clear R W)
  | fail)
 go_ret;exact HF.o
def zu6{s:ByteArray}(o:GT P)(d:s.toList=txS P a):s.size<=1000000:=by
 rw[<-zc2,d];unfold txS
 split
 ·next x hx=>exact(o.2 x (mG_ hx)).1
 exact zL_ _
def yr6{S S':List Nd->Nat->Int->Prop}{Y D G:World}{ns:List Nd}{n:Nd}{v K:Value}{o:Obj}{t:List UInt8}(L:Fr rb w Y)(R:Fr rb Y D)(J:bad<0)(d:Got S P (a+2) bad ns a' bad')(W:RI P rb D (if isS P a' bad' t then a'+1 else a') (if isS P a' bad' t then bad' else AF P a' bad'))(O:NL G B K (BJ n [(v,ns)]))(Z:w.heap.size<=B)(I:Ok (D.alloc o) G)(hn:n.Fit)(hs:S' (BJ n [(v,ns)]) (if isS P a' bad' t then a'+1 else a') (if isS P a' bad' t then bad' else AF P a' bad')):EPx S' P rb w a bad (.returned K) G:=by have X:Ok D G:=((Ok.refl D).alloc o).step I;exact⟨K,_,_,_,rfl,za7 O Z,W.ok X,(L.trans R).trans (Fr.of X),Got.node1 J (Got.take (S':=λ_ _ _=>True) J (Got.shift J d) t trivial) hn hs,λh0=>oM⟩
def yg2(P:RP)(rb:Nat)(w:World)(a:Nat)(bad:Int)(X:GT P)(m:Nat)(R:∀k,k<m->FP P rb k)(J:(P.ts.length-a)*10+2<=m)(h:RI P rb w a bad)(O:bad<0)(x:Tk)(G:P.ts[a]?=some x)(I:¬x.1=1)(K:isS P a bad [116,114,117,101]=false)(D:isS P a bad [102,97,108,115,101]=false)(d:isS P a bad [40]=false)(L:CN P a bad=false):Calls Tryz.prog 148 #[pA rb 0] w (EPx (ExS P 7 a bad) P rb w a bad):=by
 have H:=hid h;have HE:=hid R;have HM:=hid J;have HG:=hid X;have ha:a<P.ts.length:=(aE.1 G).1;have b0:(P.ts.length:Nat)<=1000000:=h.lim.1;have b1:=hid O;have a9:decide (bad<0)=true:=dT_ O;have b3:(a:Int)<(P.ts.length:Int):=za5 ha;have b2:decide (a<P.ts.length)=true:=dT_ ha;have b5:IntKind.i64.wrap ((a:Int)+1)=((a+1:Nat):Int):=zb3 oM;obtain⟨W,tx,nm,pl⟩:=x;have b4:((W:Int)==1)=false:=by rw[aF];intro e;exact I (show W=1 by omega)
 have HX:Hi (P.ts[a]?=some (W,tx,nm,pl)):=G;have a8:Hi (CF P a bad=false):=zo1 G I;clear h G I X R J;have I:Hi _:=K;have G:Hi _:=D;have J:Hi _:=d;clear K D d;have HN:=hid L;clear L;go_enter Tryz.func148,Tryz.ntmps148
 go_wp2_with (first|(go_at_call 72;refine plC H.o λw1 D a3=>?_;obtain⟨X,f1,f2,f3,z0,z1,z2,z3⟩:=za6 D.o.row;have K:=D.o.lt)|fail)
 obtain⟨g,c,y,b,d,hg,Y,hb,c0,Z,R,L⟩:=D.o.tok ha;have e:y=(W,tx,nm,pl):=by have:=HX.o;rw[Y]at this;exact aI this
 subst e;simp only at c0 Z R L;rw[d]at X;clear d hb Y;go_quiet (fail);obtain⟨w9,d⟩:=qq (w1.drewN nq);rw[<-d];have Y:Hi (RI P rb w9 a bad):=by rw[d];exact D.o.ok ((Ok.refl _).draws _)
 have a5:Hi (Ok w w9):=by rw[d];exact a3.o.draws _
 clear d X f1 f2 f3 z0 z1 z2 z3 K;clear c0 Z R L hg
 go_wp2_with (first
  |(go_at_call_of 44 ((⟨#[116,114,117,101]⟩:ByteArray));refine isC Y.o a5.o I.o λw2 a6 a4=>?_)
  |(go_at_call_of 44 ((⟨#[102,97,108,115,101]⟩:ByteArray));refine isC a6.o a4.o G.o λw3 a2 a1=>?_)
  |(go_at_call_of 44 ((⟨#[40]⟩:ByteArray));refine isC a2.o a1.o J.o λw4 K Z=>?_)
  |(go_at_call 113;refine mq (zi4 P rb _ a bad K.o) λw5 d=>?_;rw[HN.o];have X:Hi (RI P rb w5 a bad):=K.o.ok d;have a7:Hi (Ok w w5):=Z.o.step d;clear d)
  |(go_at_call 76;refine mq (zn1 P rb _ a bad X.o) λw6 ⟨L,R⟩=>?_;have HF:Hi (EPx (ExS P 7 a bad) P rb w a bad (.returned (sZ)) w6):=zB0 a7.o L R (ExS.nil a8.o I.o G.o J.o HN.o);clear L R)
  | fail)
 go_ret;exact HF.o
def yg3(P:RP)(rb:Nat)(w:World)(a:Nat)(bad:Int)(W:GT P)(m:Nat)(R:∀k,k<m->FP P rb k)(L:(P.ts.length-a)*10+2<=m)(h:RI P rb w a bad)(Y:bad<0)(x:Tk)(J:P.ts[a]?=some x)(K:¬x.1=1)(I:isS P a bad [116,114,117,101]=false)(d:isS P a bad [102,97,108,115,101]=false)(G:isS P a bad [40]=false)(O:CN P a bad=true)(D:isS P (a+1) bad [91]=false):Calls Tryz.prog 148 #[pA rb 0] w (EPx (ExS P 7 a bad) P rb w a bad):=by
 have H:=hid h;have HE:=hid R;have HM:=hid L;have HG:=hid W;have ha:a<P.ts.length:=(aE.1 J).1;have b8:(P.ts.length:Nat)<=1000000:=h.lim.1;have a2:=hid Y;have b9:decide (bad<0)=true:=dT_ Y;have c4:(a:Int)<(P.ts.length:Int):=za5 ha;have c6:decide (a<P.ts.length)=true:=dT_ ha;have c5:IntKind.i64.wrap ((a:Int)+1)=((a+1:Nat):Int):=zb3 oM;obtain⟨kd,tx,nm,pl⟩:=x;have c7:((kd:Int)==1)=false:=by rw[aF];intro e;exact K (show kd=1 by omega)
 have HX:Hi (P.ts[a]?=some (kd,tx,nm,pl)):=J;have b2:Hi (CF P a bad=false):=zo1 J K;clear h J K W R L;have J:Hi _:=I;have K:Hi _:=d;have L:Hi _:=G;clear I d G;have HN:=hid O;have I:Hi _:=D;clear O D;go_enter Tryz.func148,Tryz.ntmps148
 go_wp2_with (first|(go_at_call 72;refine plC H.o λw1 G a5=>?_;obtain⟨f0,f1,f2,f3,z0,z1,z2,z3⟩:=za6 G.o.row;have D:=G.o.lt)|fail)
 obtain⟨g,c,y,b,d,hg,W,hb,X,R,Z,O⟩:=G.o.tok ha;have e:y=(kd,tx,nm,pl):=by have:=HX.o;rw[W]at this;exact aI this
 subst e;simp only at X R Z O;rw[d]at f0;clear d hb W;go_quiet (fail);obtain⟨w9,d⟩:=qq (w1.drewN nq);rw[<-d];have a3:Hi (RI P rb w9 a bad):=by rw[d];exact G.o.ok ((Ok.refl _).draws _)
 have a6:Hi (Ok w w9):=by rw[d];exact a5.o.draws _
 clear d f0 f1 f2 f3 z0 z1 z2 z3 D;clear X R Z O hg
 go_wp2_with (first
  |(go_at_call_of 44 ((⟨#[116,114,117,101]⟩:ByteArray));refine isC a3.o a6.o J.o λw2 b0 a9=>?_)
  |(go_at_call_of 44 ((⟨#[102,97,108,115,101]⟩:ByteArray));refine isC b0.o a9.o K.o λw3 b5 a4=>?_)
  |(go_at_call_of 44 ((⟨#[40]⟩:ByteArray));refine isC b5.o a4.o L.o λw4 O a8=>?_)
  |(go_at_call 113;refine mq (zi4 P rb _ a bad O.o) λw5 d=>?_;rw[HN.o];have b4:Hi (RI P rb w5 a bad):=O.o.ok d;have b7:Hi (Ok w w5):=a8.o.step d;clear d)
  |(go_at_call 73;refine(zi5 P rb _ a bad b4.o).mono ?_;rintro e w6 ⟨s,rfl,W,D,R⟩;have b6:Hi (s=naT P a bad):=zq8 W;rw[HN.o]at W D;simp only[dD]at W D;have X:Hi (RI P rb w6 (a+1) bad):=D;have b3:Hi (Fr rb w w6):=(Fr.of b7.o).trans R;have a7:Hi (s.size<=1000000):=zu6 HG.o W;clear W D R)
  |(go_at_call_of 44 ((⟨#[91]⟩:ByteArray));refine mq (zb1 P rb _ (a+1) bad _ X.o) λw8 d=>?_;rw[show isS P (a+1) bad (⟨#[91]⟩:ByteArray).toList=false by(rw[ByteArray.toList_eq];exact I.o)];have b1:Hi (RI P rb w8 (a+1) bad):=X.o.ok d;have a1:Hi (Fr rb w w8):=b3.o.trans (Fr.of d);clear d)
  |(go_at_call 75;refine(zc3 _ ⟨0,12,s,0,0,(plS P a:Nat)⟩ _ [] (HD.none _) (by simp[held]) (by simp)).mono ?_;rintro e w7 ⟨v4,rfl,Z,d⟩;have HF:Hi (EPx (ExS P 7 a bad) P rb w a bad (.returned v4) w7):=zr1 a1.o b1.o a2.o Z a1.o.le d ⟨a7.o,by simp,by simp,by simp⟩ (ExS.read b2.o J.o K.o L.o HN.o I.o b6.o);clear Z d)
  | fail)
 go_ret;exact HF.o
def yg4(P:RP)(rb:Nat)(w:World)(a:Nat)(bad:Int)(W:GT P)(m:Nat)(R:∀k,k<m->FP P rb k)(O:(P.ts.length-a)*10+2<=m)(h:RI P rb w a bad)(a9:bad<0)(x:Tk)(J:P.ts[a]?=some x)(K:¬x.1=1)(I:isS P a bad [116,114,117,101]=false)(d:isS P a bad [102,97,108,115,101]=false)(G:isS P a bad [40]=false)(L:CN P a bad=true)(D:isS P (a+1) bad [91]=true):Calls Tryz.prog 148 #[pA rb 0] w (EPx (ExS P 7 a bad) P rb w a bad):=by
 have H:=hid h;have HE:=hid R;have HM:=hid O;have HG:=hid W;have ha:a<P.ts.length:=(aE.1 J).1;have d5:(P.ts.length:Nat)<=1000000:=h.lim.1;have b5:=hid a9;have d6:decide (bad<0)=true:=dT_ a9;have d7:(a:Int)<(P.ts.length:Int):=za5 ha;have d9:decide (a<P.ts.length)=true:=dT_ ha;have d8:IntKind.i64.wrap ((a:Int)+1)=((a+1:Nat):Int):=zb3 oM;obtain⟨kd,tx,nm,pl⟩:=x;have f4:((kd:Int)==1)=false:=by rw[aF];intro e;exact K (show kd=1 by omega)
 have HX:Hi (P.ts[a]?=some (kd,tx,nm,pl)):=J;have c9:Hi (CF P a bad=false):=zo1 J K;clear h J K W R O;have X:Hi _:=I;have Y:Hi _:=d;have Z:Hi _:=G;clear I d G;have HN:=hid L;have G:Hi _:=D;clear L D;have b1:a+2<=P.ts.length:=(zb9 G.o).2;have f5:IntKind.i64.wrap ((a:Int)+1+1)=((a+2:Nat):Int):=zd3 oM oM;go_enter Tryz.func148,Tryz.ntmps148
 go_wp2_with (first|(go_at_call 72;refine plC H.o λw1 O b8=>?_;obtain⟨f0,f1,f2,f3,z0,z1,z2,z3⟩:=za6 O.o.row;have a1:=O.o.lt)|fail)
 obtain⟨g,c,y,b,d,R,J,hb,K,I,L,D⟩:=O.o.tok ha;have e:y=(kd,tx,nm,pl):=by have:=HX.o;rw[J]at this;exact aI this
 subst e;simp only at K I L D;rw[d]at f0;clear d hb J;go_quiet (fail);obtain⟨w9,d⟩:=qq (w1.drewN nq);rw[<-d];have b6:Hi (RI P rb w9 a bad):=by rw[d];exact O.o.ok ((Ok.refl _).draws _)
 have b9:Hi (Ok w w9):=by rw[d];exact b8.o.draws _
 clear d f0 f1 f2 f3 z0 z1 z2 z3 a1;clear K I L D R
 go_wp2_with (first
  |(go_at_call_of 44 ((⟨#[116,114,117,101]⟩:ByteArray));refine isC b6.o b9.o X.o λw2 c8 c7=>?_)
  |(go_at_call_of 44 ((⟨#[102,97,108,115,101]⟩:ByteArray));refine isC c8.o c7.o Y.o λw3 d2 b7=>?_)
  |(go_at_call_of 44 ((⟨#[40]⟩:ByteArray));refine isC d2.o b7.o Z.o λw4 a5 c5=>?_)
  |(go_at_call 113;refine mq (zi4 P rb _ a bad a5.o) λw5 D=>?_;rw[HN.o];have d1:Hi (RI P rb w5 a bad):=a5.o.ok D;have d4:Hi (Ok w w5):=c5.o.step D;clear D)
  |(go_at_call 73;refine(zi5 P rb _ a bad d1.o).mono ?_;rintro e w6 ⟨s,rfl,hs,L,a6⟩;have d3:Hi (s=naT P a bad):=zq8 hs;rw[HN.o]at hs L;simp only[dD]at hs L;have a8:Hi (RI P rb w6 (a+1) bad):=L;have d0:Hi (Fr rb w w6):=(Fr.of d4.o).trans a6;have c4:Hi (s.size<=1000000):=zu6 HG.o hs;clear hs L a6)
  |(go_at_call_of 44 ((⟨#[91]⟩:ByteArray));refine mq (zb1 P rb _ (a+1) bad _ a8.o) λw8 D=>?_;rw[show isS P (a+1) bad (⟨#[91]⟩:ByteArray).toList=true by(rw[ByteArray.toList_eq];exact G.o)];have K:Hi (RI P rb w8 (a+1) bad):=a8.o.ok D;have b2:Hi (Fr rb w w8):=d0.o.trans (Fr.of D);obtain⟨f0,f1,f2,f3,z0,z1,z2,z3⟩:=za6 K.o.row;have a1:=K.o.lt;clear D)
  |(go_at_call 77;refine(HE.o ((P.ts.length-(a+2))*10+(9-0)) (oH HM.o) _ (a+2) bad 0 dC (K.o.setAt (a+2) b1) (nR_ _)).mono ?_;rintro e w7 ⟨v3,ms,W,d,rfl,a4,a7,b3,R,_⟩;obtain⟨bo,cq,rfl⟩:=za0 a4;have J:Hi (NL w7 (w8.setCell (aD rb 1) (nI ((a+2:Nat):Int))).heap.size (.slice bo ms.length cq) ms/\RI P rb w7 W d/\Fr rb (w8.setCell (aD rb 1) (nI ((a+2:Nat):Int))) w7/\Got (ExS P 0 (a+2) bad) P (a+2) bad ms W d):=⟨a4,a7,b3,R⟩;clear a4 a7 b3 R f0 f1 f2 f3 z0 z1 z2 z3 a1)
  |(go_at_call 74;refine mq (zc5 P rb _ W d _ J.o.2.1) λI ⟨b4,a3⟩=>?_;have HT:Hi (RI P rb I (if isS P W d (⟨#[93]⟩:ByteArray).toList then W+1 else W) (if isS P W d (⟨#[93]⟩:ByteArray).toList then d else AF P W d)/\Fr rb w7 I/\NL I 0 (.slice bo ms.length cq) ms):=⟨b4,a3,(NL.fr J.o.1 a3 (λb hb=>by have h1:=(J.o.1.lt b hb).1;have h2:=K.o.lt;simp at h1;omega)).base⟩;clear b4 a3)
  |(go_at_call 75;refine(zc3 _ ⟨0,13,s,0,0,(plS P a:Nat)⟩ _ [(.slice bo ms.length cq,ms)] (HD.one (za3 _ _) (za1 HT.o.2.2 ((Ok.refl I).alloc _))) (wr9 HG.o J.o.2.2.2 J.o.2.1) (by simp)).mono ?_;rintro e c6 ⟨v4,rfl,b0,D⟩;have HF:Hi (EPx (ExS P 7 a bad) P rb w a bad (.returned v4) c6):=yr6 ((b2.o.set 1 _).trans J.o.2.2.1) HT.o.2.1 b5.o J.o.2.2.2 HT.o.1 b0 (by have h1:=b2.o.le;have h2:=J.o.2.2.1.le;have h3:=HT.o.2.1.le;simp at h2 ⊢;omega) D ⟨c4.o,by simp,by simp,by simp⟩ (ExS.load (by rw[ByteArray.toList_eq]) ha c9.o X.o Y.o Z.o HN.o G.o d3.o J.o.2.2.2.sem);clear b0 D)
  | fail)
 go_ret;exact HF.o
end Go.Proofs.YthoegkcpmgalbaaGreatDoor
