import Derived.Test.YthoegkcpmgalbaaGreatDoorKLy
set_option maxHeartbeats 8000000
set_option linter.all false
set_option maxRecDepth 100000
namespace Go.Proofs.YthoegkcpmgalbaaGreatDoor
open Go.RowKit
variable{P:RP}{a:Nat}{l:List UInt8}
def yi1{ns:List Nd}{v:Value}(h:∀x∈ns,x.Fit):∀x∈held [(v,ns)],x.Fit:=by intro x d;rw[FN,bX]at d;obtain⟨y,o,rfl⟩:=d;exact zf0 (h y o)
def yi2{ns ms:List Nd}{v u:Value}(h:∀x∈ns,x.Fit)(D:∀x∈ms,x.Fit):∀x∈held [(v,ns),(u,ms)],x.Fit:=by
 intro x o;rw[wb2,bA,bX,bX]at o;rcases o with ⟨y,d,rfl⟩ | ⟨y,d,rfl⟩
 ·exact zf0 (h y d)
 exact zf0 (D y d)
def zM5(P:RP)(G:Nat)(w:World)(a:Nat)(bad:Int)(R:GT P)(h:RI P G w a bad)(K:isS P a bad [105,110,112,117,116]=false)(d:isS P a bad [97,115,115,101,114,116]=false)(J:isS P a bad [115,107,105,112]=false)(D:isS P a bad [119,104,105,108,101]=false)(L:isS P a bad [105,102]=false)(O:CN P a bad=true)(I:isS P (a+1) bad [91]=false):Calls Tryz.prog 46 #[pA G 0] w (EPs (StS P a bad) P G w a bad):=by
 have H:=hid h;have HG:=hid R;have Z:Hi _:=K;have a2:Hi _:=d;have a7:Hi _:=J;have a6:Hi _:=D;have a1:Hi _:=L;clear K d J D L;have HN:=hid O;have c7:=hid ((zo9 O).1);have Y:Hi _:=I;clear h R O I;go_enter Tryz.func46,Tryz.ntmps46
 go_wp2_with (first
  |(go_at_call 72;refine plC H.o λw1 f3 d0=>?_)
  |(go_at_call_of 44 ((⟨#[105,110,112,117,116]⟩:ByteArray));refine isC f3.o d0.o Z.o λw2 d4 d3=>?_)
  |(go_at_call_of 44 ((⟨#[97,115,115,101,114,116]⟩:ByteArray));refine isC d4.o d3.o a2.o λw3 f1 c8=>?_)
  |(go_at_call_of 44 ((⟨#[115,107,105,112]⟩:ByteArray));refine isC f1.o c8.o a7.o λw4 c5 d2=>?_)
  |(go_at_call_of 44 ((⟨#[119,104,105,108,101]⟩:ByteArray));refine isC c5.o d2.o a6.o λw5 f0 f4=>?_)
  |(go_at_call_of 44 ((⟨#[105,102]⟩:ByteArray));refine isC f0.o f4.o a1.o λw6 d6 c6=>?_)
  |(go_at_call 73;refine(zi5 P G _ a bad d6.o).mono ?_;rintro e b8 ⟨s,rfl,hs,R,b7⟩;have d1:=hid (zf1 HG.o hs);have f2:Hi (s=naT P a bad):=zq8 hs;rw[HN.o]at R;simp only[dD]at R;have a8:Hi (RI P G b8 (a+1) bad/\Fr G w b8):=⟨R,(Fr.of c6.o).trans b7⟩;clear hs R b7)
  |(go_at_call_of 44 ((⟨#[91]⟩:ByteArray));refine mq (zb1 P G _ (a+1) bad _ a8.o.1) λc0 J=>?_;rw[show isS P (a+1) bad (⟨#[91]⟩:ByteArray).toList=false by(rw[ByteArray.toList_eq];exact Y.o)];have b2:Hi (RI P G c0 (a+1) bad/\Fr G w c0/\Acc P a 0 (a+1) bad 0):=⟨a8.o.1.ok J,a8.o.2.trans (Fr.of J),Acc.start P a bad⟩;clear J)
  |(go_at_call_of 74 ((⟨#[58,61]⟩:ByteArray));refine mq (zc5 P G _ (a+1) bad _ b2.o.1) λc4 ⟨hr,hf⟩=>?_;obtain⟨a3,d⟩:=qq ((if isS P (a+1) bad (⟨#[58,61]⟩:ByteArray).toList then (a+1)+1 else (a+1)));obtain⟨b3,D⟩:=qq ((if isS P (a+1) bad (⟨#[58,61]⟩:ByteArray).toList then bad else AF P (a+1) bad));rw[<-d,<-D]at hr;have O:Hi (RI P G c4 a3 b3/\Fr G w c4/\Acc P a (0) a3 b3 0):=⟨hr,b2.o.2.1.trans hf,(by rw[d,D];exact b2.o.2.2.take _)⟩;have d7:Hi (a3=tkA P (a+1) bad [58,61]/\b3=tkB P (a+1) bad [58,61]):=⟨by rw[d,ByteArray.toList_eq];rfl,by rw[D,ByteArray.toList_eq];rfl⟩;clear hr hf d D)
  |(go_at_call 77;refine(zk5 P G HG.o _ a3 b3 0 (by decide) O.o.1).mono ?_;rintro e b1 ⟨vv,ms,K,W,rfl,b6,a9,c3,I,h0⟩;have d8:=hid I.sem.all;obtain⟨c2,b9,rfl⟩:=za0 b6;have HQ:Hi (NL b1 w.heap.size (.slice c2 ms.length b9) ms/\(∀x∈ms,x.Fit)/\ms.length<=65544):=⟨za7 b6 (by have:=O.o.2.1.le;simpa using this),I.fit,I.len' HG.o a9.le⟩;have b0:Hi (RI P G b1 K W/\Fr G w b1/\Acc P a (0+ms.length) K W 0):=⟨a9,Fr.trans O.o.2.1 c3,Acc.expr O.o.2.2 I h0⟩;clear b6 a9 c3 I h0)
  |(go_at_call_of 74 ((⟨#[59]⟩:ByteArray));refine mq (zc5 P G _ K W _ b0.o.1) λX ⟨hr,hf⟩=>?_;obtain⟨a5,d⟩:=qq ((if isS P K W (⟨#[59]⟩:ByteArray).toList then K+1 else K));obtain⟨b5,D⟩:=qq ((if isS P K W (⟨#[59]⟩:ByteArray).toList then W else AF P K W));rw[<-d,<-D]at hr;have L:Hi (RI P G X a5 b5/\Fr G w X/\Acc P a (0+ms.length) a5 b5 0):=⟨hr,b0.o.2.1.trans hf,(by rw[d,D];exact b0.o.2.2.take _)⟩;have c9:=hid (NL.up HQ.o.1 hf H.o.lt);have d5:Hi (a5=tkA P K W [59]/\b5=tkB P K W [59]):=⟨by rw[d,ByteArray.toList_eq];rfl,by rw[D,ByteArray.toList_eq];rfl⟩;clear hr hf d D)
  |(go_at_call 75;refine(zc3 _ ⟨0,2,s,0,0,(plS P a:Nat)⟩ _ [(.slice c2 ms.length b9,ms)] (HD.one (za3 _ _) (za1 c9.o.base ((Ok.refl X).alloc _))) (by have:=HQ.o.2.2;rw[FN,aM];omega) (by simp)).mono ?_;rintro e d9 ⟨v4,rfl,c1,J⟩;have HF:Hi (EPs (StS P a bad) P G w a bad (.returned v4) d9):=zg4 L.o.2.1 L.o.1 c7.o L.o.2.2 (by decide) ⟨d1.o,by simp,by simp,by simp⟩ (by rw[FN,aM,aL]) (yi1 HQ.o.2.1) c1 (by have:=L.o.2.1.le;simp;omega) (((Ok.refl X).alloc _).step J) (StS.assign ⟨Z.o,a2.o,a7.o,a6.o,a1.o⟩ HN.o Y.o f2.o d7.o d8.o d5.o);clear c1 J)
  | fail)
 go_ret;exact HF.o
def zW6(P:RP)(I:Nat)(w:World)(a:Nat)(bad:Int)(R:GT P)(h:RI P I w a bad)(K:isS P a bad [105,110,112,117,116]=false)(D:isS P a bad [97,115,115,101,114,116]=false)(J:isS P a bad [115,107,105,112]=false)(G:isS P a bad [119,104,105,108,101]=false)(L:isS P a bad [105,102]=false)(O:CN P a bad=true)(d:isS P (a+1) bad [91]=true):Calls Tryz.prog 46 #[pA I 0] w (EPs (StS P a bad) P I w a bad):=by
 have H:=hid h;have HG:=hid R;have a9:Hi _:=K;have b1:Hi _:=D;have b3:Hi _:=J;have b2:Hi _:=G;have b0:Hi _:=L;clear K D J G L;have HN:=hid O;have d8:=hid ((zo9 O).1);have a3:Hi _:=d;have d1:a+2<=P.ts.length:=(zb9 d).2;have h5:IntKind.i64.wrap ((a:Int)+1+1)=((a+2:Nat):Int):=zd3 oM (oH h.lim);clear h R O d;go_enter Tryz.func46,Tryz.ntmps46
 go_wp2_with (first
  |(go_at_call 72;refine plC H.o λw1 h3 f4=>?_)
  |(go_at_call_of 44 ((⟨#[105,110,112,117,116]⟩:ByteArray));refine isC h3.o f4.o a9.o λw2 g0 f9=>?_)
  |(go_at_call_of 44 ((⟨#[97,115,115,101,114,116]⟩:ByteArray));refine isC g0.o f9.o b1.o λw3 h1 d9=>?_)
  |(go_at_call_of 44 ((⟨#[115,107,105,112]⟩:ByteArray));refine isC h1.o d9.o b3.o λw4 d6 f6=>?_)
  |(go_at_call_of 44 ((⟨#[119,104,105,108,101]⟩:ByteArray));refine isC d6.o f6.o b2.o λw5 g8 h4=>?_)
  |(go_at_call_of 44 ((⟨#[105,102]⟩:ByteArray));refine isC g8.o h4.o b0.o λw6 g3 d7=>?_)
  |(go_at_call 73;refine(zi5 P I _ a bad g3.o).mono ?_;rintro e c6 ⟨s,rfl,hs,a2,c5⟩;have f5:=hid (zf1 HG.o hs);have h2:Hi (s=naT P a bad):=zq8 hs;rw[HN.o]at a2;simp only[dD]at a2;have b9:Hi (RI P I c6 (a+1) bad/\Fr I w c6):=⟨a2,(Fr.of d7.o).trans c5⟩;clear hs a2 c5)
  |(go_at_call_of 44 ((⟨#[91]⟩:ByteArray));refine mq (zb1 P I _ (a+1) bad _ b9.o.1) λc8 L=>?_;rw[show isS P (a+1) bad (⟨#[91]⟩:ByteArray).toList=true by(rw[ByteArray.toList_eq];exact a3.o)];have O:Hi (RI P I c8 (a+1) bad/\Fr I w c8/\Acc P a 0 (a+1) bad 0):=⟨b9.o.1.ok L,b9.o.2.trans (Fr.of L),Acc.start P a bad⟩;obtain⟨f0,W,f2,f3,G,Y,z2,X⟩:=za6 O.o.1.row;have D:=O.o.1.lt;clear L)
  | fail)
 refine(zk5 P I HG.o _ (a+2) bad 0 (by decide) (O.o.1.setAt (a+2) d1)).mono ?_;rintro e c4 ⟨vv,Z,a4,b4,rfl,K,J,R,d,h0⟩;have g9:=hid d.sem.all;obtain⟨d3,c7,rfl⟩:=za0 K;have HQ:Hi (NL c4 w.heap.size (.slice d3 Z.length c7) Z/\(∀x∈Z,x.Fit)/\Z.length<=65544):=⟨za7 K (by have:=O.o.2.1.le;simpa using this),d.fit,d.len' HG.o J.le⟩;have c2:Hi (RI P I c4 a4 b4/\Fr I w c4/\Acc P a (0+Z.length) a4 b4 0):=⟨J,Fr.trans (O.o.2.1.set 1 _) R,Acc.expr O.o.2.2.on d h0⟩;clear K J R d h0 f0 W f2 f3 G Y z2 X D
 go_wp2_with (first
  |(go_at_call_of 74 ((⟨#[93]⟩:ByteArray));refine mq (zc5 P I _ a4 b4 _ c2.o.1) λd4 ⟨Y,W⟩=>?_;obtain⟨X,D⟩:=qq ((if isS P a4 b4 (⟨#[93]⟩:ByteArray).toList then a4+1 else a4));obtain⟨b5,G⟩:=qq ((if isS P a4 b4 (⟨#[93]⟩:ByteArray).toList then b4 else AF P a4 b4));rw[<-D,<-G]at Y;have c0:Hi (RI P I d4 X b5/\Fr I w d4/\Acc P a (0+Z.length) X b5 0):=⟨Y,c2.o.2.1.trans W,(by rw[D,G];exact c2.o.2.2.take _)⟩;have f8:=hid (NL.up HQ.o.1 W H.o.lt);have g2:Hi (X=tkA P a4 b4 [93]/\b5=tkB P a4 b4 [93]):=⟨by rw[D,ByteArray.toList_eq];rfl,by rw[G,ByteArray.toList_eq];rfl⟩;clear Y W D G)
  |(go_at_call_of 74 ((⟨#[58,61]⟩:ByteArray));refine mq (zc5 P I _ X b5 _ c0.o.1) λd0 ⟨Y,W⟩=>?_;obtain⟨a6,D⟩:=qq ((if isS P X b5 (⟨#[58,61]⟩:ByteArray).toList then X+1 else X));obtain⟨b6,G⟩:=qq ((if isS P X b5 (⟨#[58,61]⟩:ByteArray).toList then b5 else AF P X b5));rw[<-D,<-G]at Y;have a1:Hi (RI P I d0 a6 b6/\Fr I w d0/\Acc P a (0+Z.length) a6 b6 0):=⟨Y,c0.o.2.1.trans W,(by rw[D,G];exact c0.o.2.2.take _)⟩;have g5:=hid (NL.up f8.o W H.o.lt);have g4:Hi (a6=tkA P X b5 [58,61]/\b6=tkB P X b5 [58,61]):=⟨by rw[D,ByteArray.toList_eq];rfl,by rw[G,ByteArray.toList_eq];rfl⟩;clear Y W D G)
  | fail)
 refine(zk5 P I HG.o _ a6 b6 0 (by decide) a1.o.1).mono ?_;rintro e c3 ⟨vv,ks,a7,b7,rfl,K,J,R,d,h0⟩;have d5:=hid d.sem.all;obtain⟨d2,c9,rfl⟩:=za0 K;have HS:Hi (NL c3 w.heap.size (.slice d2 ks.length c9) ks/\(∀x∈ks,x.Fit)/\ks.length<=65544):=⟨za7 K (by have:=a1.o.2.1.le;simpa using this),d.fit,d.len' HG.o J.le⟩;have c1:Hi (RI P I c3 a7 b7/\Fr I w c3/\Acc P a (0+Z.length+ks.length) a7 b7 0):=⟨J,Fr.trans a1.o.2.1 R,Acc.expr a1.o.2.2 d h0⟩;have g1:=hid (NL.up g5.o R H.o.lt);clear K J R d h0
 go_wp2_with (first
  |(go_at_call_of 74 ((⟨#[59]⟩:ByteArray));refine mq (zc5 P I _ a7 b7 _ c1.o.1) λd ⟨Y,W⟩=>?_;obtain⟨a8,D⟩:=qq ((if isS P a7 b7 (⟨#[59]⟩:ByteArray).toList then a7+1 else a7));obtain⟨b8,G⟩:=qq ((if isS P a7 b7 (⟨#[59]⟩:ByteArray).toList then b7 else AF P a7 b7));rw[<-D,<-G]at Y;have J:Hi (RI P I d a8 b8/\Fr I w d/\Acc P a (0+Z.length+ks.length) a8 b8 0):=⟨Y,c1.o.2.1.trans W,(by rw[D,G];exact c1.o.2.2.take _)⟩;have g6:=hid (NL.up g1.o W H.o.lt);have f7:=hid (NL.up HS.o.1 W H.o.lt);have R:Hi (a8=tkA P a7 b7 [59]/\b8=tkB P a7 b7 [59]):=⟨by rw[D,ByteArray.toList_eq];rfl,by rw[G,ByteArray.toList_eq];rfl⟩;clear Y W D G)
  |(go_at_call 75;refine(zc3 _ ⟨0,3,s,0,0,(plS P a:Nat)⟩ _ [(.slice d3 Z.length c7,Z),(.slice d2 ks.length c9,ks)] (zG9 (za3 _ _) (za1 g6.o.base ((Ok.refl d).alloc _)) (za1 f7.o.base ((Ok.refl d).alloc _))) (by have:=HQ.o.2.2;have:=HS.o.2.2;rw[wb2,aA,aM,aM];omega) (by simp)).mono ?_;rintro e g7 ⟨v4,rfl,K,L⟩;have HF:Hi (EPs (StS P a bad) P I w a bad (.returned v4) g7):=zg4 J.o.2.1 J.o.1 d8.o J.o.2.2 (by decide) ⟨f5.o,by simp,by simp,by simp⟩ (by rw[wb2,aA,aM,aM,aL]) (yi2 HQ.o.2.1 HS.o.2.1) K (by have:=J.o.2.1.le;simp;omega) (((Ok.refl d).alloc _).step L) (StS.store ⟨a9.o,b1.o,b3.o,b2.o,b0.o⟩ HN.o a3.o h2.o g9.o g2.o g4.o d5.o R.o);clear K L)
  | fail)
 go_ret;exact HF.o
def yi3(P:RP)(d m:Nat)(o:GT P)(R:∀k,k<m->wd4 P d k):wl3 P d m:=by
 intro w a bad h O
 cases D:isS P a bad [105,110,112,117,116] with
 | true=>exact zW2 P d w a bad o h D
 | false =>
  cases G:isS P a bad [97,115,115,101,114,116] with
  | true=>exact zL5 P d w a bad o h D G
  | false =>
   cases I:isS P a bad [115,107,105,112] with
   | true=>exact yg7 P d w a bad o h D G I
   | false =>
    cases J:isS P a bad [119,104,105,108,101] with
    | true=>exact zW3 P d w a bad m R O o h D G I J
    | false =>
     cases K:isS P a bad [105,102] with
     | true=>exact yA7 P d w a bad m R O o h D G I J K
     | false =>
      cases L:CN P a bad with
      | false=>exact zL6 P d w a bad o h D G I J K L
      | true =>
       cases W:isS P (a+1) bad [91] with
       | false=>exact zM5 P d w a bad o h D G I J K L W
       | true=>exact zW6 P d w a bad o h D G I J K L W
def ys9(P:RP)(d:Nat)(D:GT P)(m:Nat):wl3 P d m/\wd4 P d m:=by
 induction m using Nat.strongRecOn with
 | ind m ih=>exact⟨yi3 P d m D λk o=>(ih k o).2,zW1 P d m D λk o=>(ih k o).1⟩
def zB7(P:RP)(d:Nat)(o:GT P)(w:World)(a:Nat)(bad:Int)(h:RI P d w a bad) :
  Calls Tryz.prog 46 #[pA d 0] w (EPs (StS P a bad) P d w a bad):=(ys9 P d o _).1 w a bad h (nR_ _)
def yi4(x:Int):wrap64 x<=9223372036854775807:=by unfold wrap64;omega
def yi5:∀(l:List UInt8) (n:Int),n<=9223372036854775807->wg6 n l<=9223372036854775807
 | [],n,h=>h
 | c::r,n,h=>yi5 r _ (yi4 _)
def zH6{k:Nat}{t:List UInt8}{n:Int}(h:BC l=.inr (k,t,n)):n<=9223372036854775807:=by
 cases l with
 | nil=>cases h
 | cons c r =>
  simp only[BC]at h
  repeat' split at h
  all_goals (first|(cases h;done) | skip)
  all_goals (cases h)
  all_goals (first | exact yi5 _ _ dC | decide)
def zM6:∀(f:Nat) (l:List UInt8) (i:Nat) (ts:List Tk),wa9 f l i=.inr ts->ts.length<=l.length/\∀x∈ts,x.2.1.length<=l.length/\x.2.2.1<=9223372036854775807
 | 0,l,i,ts,h=>by cases h;exact⟨zL_ _,λx hx=>by cases hx⟩
 | f+1,[],i,ts,h=>by cases h;exact⟨zL_ _,λx hx=>by cases hx⟩
 | f+1,c::r,i,ts,h=>by
  by_cases o:0<EN (c::r)
  ·rw[zA6 (dW _ _) o]at h
   have:=zM6 f _ _ ts h;rw[cW]at this;exact⟨oM,λx hx=>⟨by have:=(this.2 x hx).1;omega,(this.2 x hx).2⟩⟩
  cases d:BC (c::r) with
  | inl e=>rw[zA7 (dW _ _) o d]at h;cases h
  | inr p =>
   obtain⟨k,t,n⟩:=p;rw[zA8 (dW _ _) o d]at h
   cases G:wa9 f ((c::r).drop t.length) (i+t.length) with
   | inl e=>rw[G]at h;cases h
   | inr rs =>
    rw[G]at h;have I:(k,t,n,i)::rs=ts:=Sum.inr.inj h;subst I;have D:=zM6 f _ _ rs G;have J:=zG6 d;rw[cW]at D;refine⟨by rw[aR];omega,λx hx=>?_⟩;rw[bJ]at hx;rcases hx with rfl | hx
    ·exact⟨J.2,zH6 d⟩
    exact⟨by have:=(D.2 x hx).1;omega,(D.2 x hx).2⟩
def zB8{ts:List Tk}(h:DY l=.inr ts):l.length<=8192/\ts.length<=8192/\∀x∈ts,x.2.1.length<=1000000/\x.2.2.1<=9223372036854775807:=by
 unfold DY at h
 split at h
 ·cases h
 next h8 =>
 have:=zM6 _ _ _ _ h;exact⟨oM,oM,λx d=>⟨by have:=(this.2 x d).1;omega,(this.2 x d).2⟩⟩
def GT.of(h:DY l=.inr P.ts):GT P:=⟨(zB8 h).2.1,(zB8 h).2.2⟩
def deF(P:RP)(a:Nat)(bad:Int):List Nd×Nat×Int :=
 let s:=naT P (a+1) bad
 let a1:=naA P (a+1) bad
 let b1:=naB P (a+1) bad
 if isS P a bad [97,114,114,97,121] then
  let a2:=tkA P a1 b1 [91]
  let b2:=tkB P a1 b1 [91]
  let a3:=if CF P a2 b2 then a2+1 else a2
  let b3:=if CF P a2 b2 then b2 else AF P a2 b2
  let a4:=tkA P a3 b3 [93]
  let b4:=tkB P a3 b3 [93]
  (ndS ⟨0,1,s,if CF P a2 b2 then nuS P a2 else 0,0,(plS P a:Nat)⟩ [],tkA P a4 b4 [59],tkB P a4 b4 [59])
 else (ndS ⟨0,0,s,0,0,(plS P a:Nat)⟩ [],tkA P a1 b1 [59],tkB P a1 b1 [59])
def DeS(P:RP)(a:Nat)(bad:Int)(ns:List Nd)(a':Nat)(bad':Int):Prop:=deF P a bad=(ns,a',bad')
def DeS.var{a6:Nat}{bad d:Int}{s:ByteArray}{t:List UInt8}(D:t=[59])(h:isS P a bad [97,114,114,97,121]=false)(G:s=naT P (a+1) bad)(o:a6=naA P (a+1) bad/\d=naB P (a+1) bad):DeS P a bad (ndS ⟨0,0,s,0,0,(plS P a:Nat)⟩ []) (tkA P a6 d t) (tkB P a6 d t):=by unfold DeS deF;rw[h,G,o.1,o.2,D];rfl
def DeS.arr{a6 a7 a8 a9 a10:Nat}{bad D d I J o z:Int}{s:ByteArray}(h:isS P a bad [97,114,114,97,121]=true)(W:s=naT P (a+1) bad)(O:a6=naA P (a+1) bad/\D=naB P (a+1) bad)(K:a7=tkA P a6 D [91]/\d=tkB P a6 D [91])(X:a8=(if CF P a7 d then a7+1 else a7)/\I=(if CF P a7 d then d else AF P a7 d))(L:z=if CF P a7 d then nuS P a7 else 0)(R:a9=tkA P a8 I [93]/\J=tkB P a8 I [93])(G:a10=tkA P a9 J [59]/\o=tkB P a9 J [59]):DeS P a bad (ndS ⟨0,1,s,z,0,(plS P a:Nat)⟩ []) a10 o:=by obtain⟨rfl,rfl⟩:=O;obtain⟨rfl,rfl⟩:=K;obtain⟨rfl,rfl⟩:=X;obtain⟨rfl,rfl⟩:=R;obtain⟨rfl,rfl⟩:=G;subst W L;unfold DeS deF;rw[h];rfl
def Acc.bad{n ac e:Nat}{d:Int}(h:Acc P a n ac d e):Acc P a n ac (AF P ac d) e:=by
 have o:=h.le;have D:=h.len;have:=ze7 P ac d;refine⟨o,?_⟩;rw[aC oM]
 split at D<;>omega
def yt0{bad:Int}(h:CF P a bad=false)(x:Int):(0:Int)=if CF P a bad then x else 0:=by rw[h];rfl
def yE3{bad b8:Int}(h:CF P a bad=false)(d:b8=AF P a bad):a=(if CF P a bad then a+1 else a)/\b8=(if CF P a bad then bad else AF P a bad):=by rw[h];exact⟨rfl,d⟩
def yB9{bad nm:Int}{k p:Nat}{d:List UInt8}(o:bad<0)(G:P.ts[a]?=some (k,d,nm,p))(D:k=1):CF P a bad=true/\nuS P a=nm:=by unfold CF nuS;rw[G,aV o,D];exact⟨rfl,rfl⟩
def yE4{bad:Int}(h:CF P a bad=true):a+1=(if CF P a bad then a+1 else a)/\bad=(if CF P a bad then bad else AF P a bad):=by rw[h];exact⟨rfl,rfl⟩
def wt9{bad nm:Int}(h:CF P a bad=true/\nuS P a=nm):nm=if CF P a bad then nuS P a else 0:=by rw[h.1,h.2];rfl
def yt1(P:RP)(G:Nat)(w:World)(a:Nat)(bad:Int)(I:GT P)(h:RI P G w a bad)(D:bad<0)(ha:a<P.ts.length)(d:isS P a bad [97,114,114,97,121]=false):Calls Tryz.prog 45 #[pA G 0] w (EPs (DeS P a bad) P G w a bad):=by
 have H:=hid h;have HG:=hid I;have R:Hi _:=d;have a9:=hid D;have b9:(P.ts.length:Nat)<=1000000:=h.lim.1;clear d D;have c0:IntKind.i64.wrap ((a:Int)+1)=((a+1:Nat):Int):=zb3 (oH H.o.lim);clear h I;go_enter Tryz.func45,Tryz.ntmps45
 go_wp2_with (first
  |(go_at_call 72;refine plC H.o λw1 b5 b4=>?_)
  |(go_at_call 44;refine isC b5.o b4.o R.o λw2 Y b8=>?_;obtain⟨f0,f1,f2,f3,z0,z1,z2,z3⟩:=za6 Y.o.row;have b3:=Y.o.lt)
  |(go_at_call 73;refine(zi5 P G _ (a+1) bad (Y.o.setAt (a+1) ha)).mono ?_;rintro e a2 ⟨s,rfl,hs,W,a3⟩;have b0:=hid (zf1 HG.o hs);obtain⟨d,L⟩:=qq ((if CN P (a+1) bad then a+1+1 else a+1));obtain⟨D,I⟩:=qq ((if CN P (a+1) bad then bad else AF P (a+1) bad));rw[<-L,<-I]at W;have X:Hi (RI P G a2 d D/\Fr G w a2/\Acc P a 0 d D 0):=⟨W,((Fr.of b8.o).set 1 _).trans a3,(by rw[L,I];exact(Acc.start P a bad).name)⟩;have b2:Hi (s=naT P (a+1) bad):=zq8 hs;have b1:Hi (d=naA P (a+1) bad/\D=naB P (a+1) bad):=⟨L,I⟩;clear hs W a3 L I f0 f1 f2 f3 z0 z1 z2 z3 b3)
  |(go_at_call_of 74 ((⟨#[59]⟩:ByteArray));refine mq (zc5 P G _ d D _ X.o.1) λa4 ⟨hr,hf⟩=>?_;obtain⟨a7,J⟩:=qq ((if isS P d D (⟨#[59]⟩:ByteArray).toList then d+1 else d));obtain⟨b7,O⟩:=qq ((if isS P d D (⟨#[59]⟩:ByteArray).toList then D else AF P d D));rw[<-J,<-O]at hr;have K:Hi (RI P G a4 a7 b7/\Fr G w a4/\Acc P a 0 a7 b7 0):=⟨hr,X.o.2.1.trans hf,(by rw[J,O];exact X.o.2.2.take _)⟩;have Z:Hi (a7=tkA P d D [59]/\b7=tkB P d D [59]):=⟨by rw[J,ByteArray.toList_eq];rfl,by rw[O,ByteArray.toList_eq];rfl⟩;clear hr hf J O)
  |(go_at_call 75;refine(zc3 _ ⟨0,0,s,0,0,(plS P a:Nat)⟩ _ [] (HD.none _) (by simp[held]) (by simp)).mono ?_;rintro e a8 ⟨v4,rfl,a5,a1⟩;have HF:Hi (EPs (DeS P a bad) P G w a bad (.returned v4) a8):=zg4 K.o.2.1 K.o.1 a9.o K.o.2.2 (by decide) ⟨b0.o,by simp,by simp,by simp⟩ rfl (λx hx=>by cases hx) a5 K.o.2.1.le a1 (by rw[Z.o.1,Z.o.2];exact DeS.var rfl R.o b2.o b1.o);clear a5 a1)
  | fail)
 go_ret;exact HF.o
def yt2(P:RP)(K:Nat)(w:World)(a:Nat)(bad:Int)(G:GT P)(h:RI P K w a bad)(D:bad<0)(ha:a<P.ts.length)(d:isS P a bad [97,114,114,97,121]=true):Calls Tryz.prog 45 #[pA K 0] w (EPs (DeS P a bad) P K w a bad):=by
 have H:=hid h;have HG:=hid G;have a9:Hi _:=d;have d4:=hid D;have g6:(P.ts.length:Nat)<=1000000:=h.lim.1;clear d D;have h0:IntKind.i64.wrap ((a:Int)+1)=((a+1:Nat):Int):=zb3 (oH H.o.lim);clear h G;go_enter Tryz.func45,Tryz.ntmps45
 go_wp2_with (first
  |(go_at_call 72;refine plC H.o λw1 g5 g1=>?_)
  |(go_at_call 44;refine isC g5.o g1.o a9.o λw2 c9 g3=>?_;obtain⟨f0,f1,f2,f3,z0,z1,z2,z3⟩:=za6 c9.o.row;have a1:=c9.o.lt)
  |(go_at_call 73;refine(zi5 P K _ (a+1) bad (c9.o.setAt (a+1) ha)).mono ?_;rintro e d6 ⟨s,rfl,hs,d3,d5⟩;have d8:Hi (s.size<=1000000):=zf1 HG.o hs;obtain⟨a6,c4⟩:=qq ((if CN P (a+1) bad then a+1+1 else a+1));obtain⟨b6,c6⟩:=qq ((if CN P (a+1) bad then bad else AF P (a+1) bad));rw[<-c4,<-c6]at d3;have d1:Hi (RI P K d6 a6 b6/\Fr K w d6/\Acc P a 0 a6 b6 0):=⟨d3,((Fr.of g3.o).set 1 _).trans d5,(by rw[c4,c6];exact(Acc.start P a bad).name)⟩;have f9:Hi (s=naT P (a+1) bad):=zq8 hs;have f7:Hi (a6=naA P (a+1) bad/\b6=naB P (a+1) bad):=⟨c4,c6⟩;clear hs d3 d5 c4 c6 f0 f1 f2 f3 z0 z1 z2 z3 a1)
  |(go_at_call_of 74 ((⟨#[91]⟩:ByteArray));refine mq (zc5 P K _ a6 b6 _ d1.o.1) λa8 ⟨hr,hf⟩=>?_;obtain⟨G,d⟩:=qq ((if isS P a6 b6 (⟨#[91]⟩:ByteArray).toList then a6+1 else a6));obtain⟨R,D⟩:=qq ((if isS P a6 b6 (⟨#[91]⟩:ByteArray).toList then b6 else AF P a6 b6));rw[<-d,<-D]at hr;have L:Hi (RI P K a8 G R/\Fr K w a8/\Acc P a 0 G R 0):=⟨hr,d1.o.2.1.trans hf,(by rw[d,D];exact d1.o.2.2.take _)⟩;have f6:Hi (G=tkA P a6 b6 [91]/\R=tkB P a6 b6 [91]):=⟨by rw[d,ByteArray.toList_eq];rfl,by rw[D,ByteArray.toList_eq];rfl⟩;clear hr hf d D)
  | fail)
 obtain⟨f0,f1,f2,f3,z0,z1,z2,z3⟩:=za6 L.o.1.row;have a1:=L.o.1.lt;by_cases b1:R<0;rotate_left;have f4:decide (R<0)=false:=dF_ b1;have c5:Hi (CF P G R=false):=zB1 (.inl b1);obtain⟨ao,cap,Y⟩:=za0 L.o.1.own;rw[Y]at f0;clear Y;go_quiet (fail);obtain⟨w9,O⟩:=qq (a8.drewN nq);rw[<-O];have X:Hi (RI P K w9 G R/\Fr K w w9/\Acc P a 0 G R 0):=by unfold Hi;rw[O];exact⟨L.o.1.ok ((Ok.refl _).draws _),L.o.2.1.trans (Fr.of ((Ok.refl _).draws _)),L.o.2.2⟩
 clear O f0 f1 f2 f3 z0 z1 z2 z3 a1;rotate_left;have f4:decide (R<0)=true:=dT_ b1;have g9:Hi (R<0):=b1;by_cases a3:G<P.ts.length;rotate_left;have f8:¬(G:Int)<(P.ts.length:Int):=zb2 a3;have d9:decide (G<P.ts.length)=false:=dF_ a3;have c5:Hi (CF P G R=false):=zB1 (.inr a3);obtain⟨ao,cap,Y⟩:=za0 L.o.1.own;rw[Y]at f0;clear Y;go_quiet (fail);obtain⟨w9,O⟩:=qq (a8.drewN nq);rw[<-O];have X:Hi (RI P K w9 G R/\Fr K w w9/\Acc P a 0 G R 0):=by unfold Hi;rw[O];exact⟨L.o.1.ok ((Ok.refl _).draws _),L.o.2.1.trans (Fr.of ((Ok.refl _).draws _)),L.o.2.2⟩
 clear O f0 f1 f2 f3 z0 z1 z2 z3 a1;rotate_left;rotate_left;have f8:(G:Int)<(P.ts.length:Int):=za5 a3;have d9:decide (G<P.ts.length)=true:=dT_ a3;obtain⟨g,c,y,b,Y,hg,hy,d0,c0,c1,c2,c3⟩:=L.o.1.tok a3;obtain⟨kd,tx,nm,pl⟩:=y;have HX:Hi (P.ts[G]?=some (kd,tx,nm,pl)):=hy;have g8:Hi (P.tv=.slice (sA g 0) P.ts.length c):=Y;simp only at c0 c1 c2 c3;rw[Y]at f0;clear Y hy d0;by_cases hk:kd=1
 ·subst hk
  have f5:Hi (CF P G R=true/\nuS P G=nm):=yB9 b1 HX.o rfl;have g7:IntKind.i64.wrap ((G:Int)+1)=((G+1:Nat):Int):=zb3 oM;have g4:Hi (nm<=9223372036854775807):=(HG.o.2 _ (mG_ HX.o)).2;go_quiet (fail);obtain⟨w9,O⟩:=qq (a8.drewN nq);rw[<-O];have X:Hi (RI P K w9 G R/\Fr K w w9/\Acc P a 0 G R 0):=by unfold Hi;rw[O];exact⟨L.o.1.ok ((Ok.refl _).draws _),L.o.2.1.trans (Fr.of ((Ok.refl _).draws _)),L.o.2.2⟩
  clear O f0 f1 f2 f3 z0 z1 z2 z3 a1;clear c0 c1 c2 c3 hg;obtain⟨f0,f1,f2,f3,z0,z1,z2,z3⟩:=za6 X.o.1.row;have a1:=X.o.1.lt;obtain⟨g',c',y,b',Y,hg,hy,d0,c0,c1,c2,c3⟩:=X.o.1.tok a3;have e:y=(1,tx,nm,pl):=by have:=HX.o;rw[hy]at this;exact aI this
  subst e;simp only at c0 c1 c2 c3;rw[Y]at f0;clear hy d0 Y;go_wp2_with fail;go_quiet (fail);obtain⟨w8,I⟩:=qq (w9.drewN nq);rw[<-I];have a2:Hi (RI P K w8 G R/\Fr K w w8/\Acc P a 0 G R 0):=by unfold Hi;rw[I];exact⟨X.o.1.ok ((Ok.refl _).draws _),X.o.2.1.trans (Fr.of ((Ok.refl _).draws _)),X.o.2.2⟩
  clear I f0 f1 f2 f3 z0 z1 z2 z3 a1 c0 c1 c2 c3 hg;obtain⟨f0,f1,f2,f3,z0,z1,z2,z3⟩:=za6 a2.o.1.row;have a1:=a2.o.1.lt
  go_wp2_with (first
  |(go_at_call_of 74 ((⟨#[93]⟩:ByteArray));refine mq (zc5 P K _ (G+1) R _ (a2.o.1.setAt (G+1) a3)) λb5 ⟨hr,hf⟩=>?_;obtain⟨I,d⟩:=qq ((if isS P (G+1) R (⟨#[93]⟩:ByteArray).toList then (G+1)+1 else (G+1)));obtain⟨J,D⟩:=qq ((if isS P (G+1) R (⟨#[93]⟩:ByteArray).toList then R else AF P (G+1) R));rw[<-d,<-D]at hr;have Z:Hi (RI P K b5 I J/\Fr K w b5/\Acc P a 0 I J 0):=⟨hr,(a2.o.2.1.set 1 _).trans hf,(by rw[d,D];exact a2.o.2.2.on.take _)⟩;have b2:Hi (I=tkA P (G+1) R [93]/\J=tkB P (G+1) R [93]):=⟨by rw[d,ByteArray.toList_eq];rfl,by rw[D,ByteArray.toList_eq];rfl⟩;clear hr hf d D f0 f1 f2 f3 z0 z1 z2 z3 a1)
  |(go_at_call_of 74 ((⟨#[59]⟩:ByteArray));refine mq (zc5 P K _ I J _ Z.o.1) λb9 ⟨hr,hf⟩=>?_;obtain⟨a4,d⟩:=qq ((if isS P I J (⟨#[59]⟩:ByteArray).toList then I+1 else I));obtain⟨a5,D⟩:=qq ((if isS P I J (⟨#[59]⟩:ByteArray).toList then J else AF P I J));rw[<-d,<-D]at hr;have W:Hi (RI P K b9 a4 a5/\Fr K w b9/\Acc P a 0 a4 a5 0):=⟨hr,Z.o.2.1.trans hf,(by rw[d,D];exact Z.o.2.2.take _)⟩;have b0:Hi (a4=tkA P I J [59]/\a5=tkB P I J [59]):=⟨by rw[d,ByteArray.toList_eq];rfl,by rw[D,ByteArray.toList_eq];rfl⟩;clear hr hf d D)
  |(go_at_call 75;refine(zc3 _ ⟨0,1,s,nm,0,(plS P a:Nat)⟩ _ [] (HD.none _) (by simp[held]) (by simp)).mono ?_;rintro e d2 ⟨v4,rfl,b4,b3⟩;have HF:Hi (EPs (DeS P a bad) P K w a bad (.returned v4) d2):=zg4 W.o.2.1 W.o.1 d4.o W.o.2.2 (by decide) ⟨d8.o,by simp,by simp,g4.o⟩ rfl (λx hx=>by cases hx) b4 W.o.2.1.le b3 (DeS.arr a9.o f9.o f7.o f6.o (yE4 f5.o.1) (wt9 f5.o) b2.o b0.o);clear b4 b3)
  | fail)
  go_ret;exact HF.o
 have h1:((kd:Int)==1)=false:=by rw[aF];intro e;exact hk (show kd=1 by omega)
 have c5:Hi (CF P G R=false):=zo1 HX.o hk;clear hk;go_quiet (fail);obtain⟨w9,O⟩:=qq (a8.drewN nq);rw[<-O];have X:Hi (RI P K w9 G R/\Fr K w w9/\Acc P a 0 G R 0):=by unfold Hi;rw[O];exact⟨L.o.1.ok ((Ok.refl _).draws _),L.o.2.1.trans (Fr.of ((Ok.refl _).draws _)),L.o.2.2⟩
 clear O f0 f1 f2 f3 z0 z1 z2 z3 a1;clear c0 c1 c2 c3 hg
 all_goals
  go_wp2_with (first
  |(go_at_call 76;refine mq (zn1 P K _ G R X.o.1) λg0 ⟨c8,d7⟩=>?_;obtain⟨O,c7⟩:=qq (AF P G R);rw[<-c7]at c8;have a2:Hi (RI P K g0 G O/\Fr K w g0/\Acc P a 0 G O 0):=⟨c8,X.o.2.1.trans d7,(by rw[c7];exact X.o.2.2.bad)⟩;have g2:Hi (O=AF P G R):=c7;clear c8 d7 c7)
  |(go_at_call_of 74 ((⟨#[93]⟩:ByteArray));refine mq (zc5 P K _ G O _ a2.o.1) λb5 ⟨hr,hf⟩=>?_;obtain⟨I,d⟩:=qq ((if isS P G O (⟨#[93]⟩:ByteArray).toList then G+1 else G));obtain⟨J,D⟩:=qq ((if isS P G O (⟨#[93]⟩:ByteArray).toList then O else AF P G O));rw[<-d,<-D]at hr;have Z:Hi (RI P K b5 I J/\Fr K w b5/\Acc P a 0 I J 0):=⟨hr,a2.o.2.1.trans hf,(by rw[d,D];exact a2.o.2.2.take _)⟩;have b2:Hi (I=tkA P G O [93]/\J=tkB P G O [93]):=⟨by rw[d,ByteArray.toList_eq];rfl,by rw[D,ByteArray.toList_eq];rfl⟩;clear hr hf d D)
  |(go_at_call_of 74 ((⟨#[59]⟩:ByteArray));refine mq (zc5 P K _ I J _ Z.o.1) λb9 ⟨hr,hf⟩=>?_;obtain⟨a4,d⟩:=qq ((if isS P I J (⟨#[59]⟩:ByteArray).toList then I+1 else I));obtain⟨a5,D⟩:=qq ((if isS P I J (⟨#[59]⟩:ByteArray).toList then J else AF P I J));rw[<-d,<-D]at hr;have W:Hi (RI P K b9 a4 a5/\Fr K w b9/\Acc P a 0 a4 a5 0):=⟨hr,Z.o.2.1.trans hf,(by rw[d,D];exact Z.o.2.2.take _)⟩;have b0:Hi (a4=tkA P I J [59]/\a5=tkB P I J [59]):=⟨by rw[d,ByteArray.toList_eq];rfl,by rw[D,ByteArray.toList_eq];rfl⟩;clear hr hf d D)
  |(go_at_call 75;refine(zc3 _ ⟨0,1,s,0,0,(plS P a:Nat)⟩ _ [] (HD.none _) (by simp[held]) (by simp)).mono ?_;rintro e d2 ⟨v4,rfl,b4,b3⟩;have HF:Hi (EPs (DeS P a bad) P K w a bad (.returned v4) d2):=zg4 W.o.2.1 W.o.1 d4.o W.o.2.2 (by decide) ⟨d8.o,by simp,by simp,by simp⟩ rfl (λx hx=>by cases hx) b4 W.o.2.1.le b3 (DeS.arr a9.o f9.o f7.o f6.o (yE3 c5.o g2.o) (yt0 c5.o _) b2.o b0.o);clear b4 b3)
  | fail)
  go_ret;exact HF.o
def zR9(P:RP)(d:Nat)(D:GT P)(w:World)(a:Nat)(bad:Int)(h:RI P d w a bad)(o:bad<0)(G:a<P.ts.length):Calls Tryz.prog 45 #[pA d 0] w (EPs (DeS P a bad) P d w a bad):=by
 cases I:isS P a bad [97,114,114,97,121] with
 | true=>exact yt2 P d w a bad D h o G I
 | false=>exact yt1 P d w a bad D h o G I
end Go.Proofs.YthoegkcpmgalbaaGreatDoor
