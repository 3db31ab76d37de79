import Derived.Test.YthoegkcpmgalbaaGreatDoorKPa
set_option linter.all false
set_option maxRecDepth 100000
namespace Go.Proofs.YthoegkcpmgalbaaGreatDoor
open Go.RowKit
variable{P:RP}{a:Nat}{bad:Int}
def dlF(P:RP):Nat->List Nd->Nat->Int->List Nd×Nat×Int
 | 0,l,a,bad=>(l,a,bad)
 | k+1,l,a,bad=>if isS P a bad [118,97,114]||isS P a bad [97,114,114,97,121] then dlF P k (l++(deF P a bad).1) (deF P a bad).2.1 (deF P a bad).2.2 else (l,a,bad)
def stA(P:RP)(a:Nat)(bad:Int):List Nd×Nat×Int:=stF P (P.ts.length*10+10) 0 a bad
def slF(P:RP):Nat->List Nd->Nat->Int->List Nd×Nat×Int
 | 0,l,a,bad=>(l,a,bad)
 | k+1,l,a,bad=>if decide (bad<0)&&decide (a<P.ts.length) then slF P k (l++(stA P a bad).1) (stA P a bad).2.1 (stA P a bad).2.2 else (l,a,bad)
def slL(P:RP)(r:List Nd×Nat×Int):List Nd×Nat×Int:=slF P (P.ts.length*2+2) r.1 r.2.1 r.2.2
def paF(P:RP):List Nd×Nat×Int:=slL P (dlF P (P.ts.length*2+2) [] 0 (-1))
def DlS(P:RP)(l:List Nd)(a:Nat)(bad:Int):Prop:=∃k,(P.ts.length-a)*2+(if bad<0 then 1 else 0)<=k/\paF P=slL P (dlF P k l a bad)
def SlS(P:RP)(l:List Nd)(a:Nat)(bad:Int):Prop:=∃k,(P.ts.length-a)*2+(if bad<0 then 1 else 0)<=k/\paF P=slF P k l a bad
def DlS.begin(P:RP):DlS P [] 0 (-1):=⟨_,by rw[aG oM];omega,rfl⟩
def DlS.next{l ms:List Nd}{o:Nat}{d:Int}(h:DlS P l a bad)(K:(isS P a bad [118,97,114]||isS P a bad [97,114,114,97,121])=true)(I:bad<0)(L:DeS P a bad ms o d)(hg:a<o\/0<=d)(J:a<=o)(G:o<=P.ts.length):DlS P (l++ms) o d:=by
 obtain⟨k,O,e⟩:=h;rw[aG I]at O;obtain⟨k,rfl,_⟩:=fuel (n:=0) (f:=k) oM;refine⟨k,?_,?_⟩
 ·split
  ·rcases hg with hg | hg<;>omega
  omega
 have D:deF P a bad=(ms,o,d):=L;rw[e,dlF,K,aG rfl,D]
def DlS.fin{l:List Nd}(h:DlS P l a bad)(d:(isS P a bad [118,97,114]||isS P a bad [97,114,114,97,121])=false)(o:a<=P.ts.length):SlS P l a bad:=by
 obtain⟨k,D,e⟩:=h;refine⟨P.ts.length*2+2,by split<;>omega,?_⟩;rw[e]
 cases k with
 | zero=>rfl
 | succ k=>rw[dlF,d];rfl
def SlS.next{l ms:List Nd}{o:Nat}{d:Int}(h:SlS P l a bad)(G:bad<0)(K:a<P.ts.length)(L:StS P a bad ms o d)(hg:a<o\/0<=d)(J:a<=o)(I:o<=P.ts.length):SlS P (l++ms) o d:=by
 obtain⟨k,O,e⟩:=h;rw[aG G]at O;obtain⟨k,rfl,_⟩:=fuel (n:=0) (f:=k) oM;refine⟨k,?_,?_⟩
 ·split
  ·rcases hg with hg | hg<;>omega
  omega
 have D:stA P a bad=(ms,o,d):=L _ oM;rw[e,slF,aV G,aV K,aG (by rfl),D]
def SlS.fin{l:List Nd}(h:SlS P l a bad)(hb:¬bad<0\/¬a<P.ts.length):paF P=(l,a,bad):=by
 obtain⟨k,d,e⟩:=h;rw[e]
 cases k with
 | zero=>rfl
 | succ k =>
  rw[slF];rcases hb with hb | hb
  ·rw[aN hb];rfl
  rw[aN hb,cL];rfl
def dpF:List Nd->Option Nd
 | []=>none
 | n::r=>if 24<n.depth then some n else dpF r
def BX(P:RP):Int×Int×List Nd :=
 if 0<=(paF P).2.2 then (30,(paF P).2.2,[])
 else match (paF P).1[300]? with
  | some n=>(32,n.pos,[])
  | none=>match dpF (paF P).1 with
   | some n=>(31,n.pos,[])
   | none=>(0,0,(paF P).1)
def yt3{ns:List Nd}{k:Nat}{n:Nd}(h:ns[k]?=some n):dpF (ns.drop k)=if 24<n.depth then some n else dpF (ns.drop (k+1)):=by obtain⟨d,e⟩:=aE.1 h;rw[aP d,e];rfl
def yt4{l:List Nd}(h:paF P=(l,a,bad))(d:¬bad<0):BX P=(30,bad,[]):=by unfold BX;rw[h,aG (by show 0<=bad;omega)]
def yi6{l:List Nd}{n:Nd}(h:paF P=(l,a,bad))(o:bad<0)(d:l[300]?=some n):BX P=(32,n.pos,[]):=by unfold BX;rw[h,aC (by show ¬0<=bad;omega)];simp only[d]
def yi7{l:List Nd}{n:Nd}(h:paF P=(l,a,bad))(D:bad<0)(o:l[300]?=none)(d:dpF l=some n):BX P=(31,n.pos,[]):=by unfold BX;rw[h,aC (by show ¬0<=bad;omega)];simp only[o,d]
def yC0{l:List Nd}(h:paF P=(l,a,bad))(D:bad<0)(o:l[300]?=none)(d:dpF l=none):BX P=(0,0,l):=by unfold BX;rw[h,aC (by show ¬0<=bad;omega)];simp only[o,d]
def we7(w:World)(l:List UInt8)(e:Ending)(w':World):Prop :=
 match DY l with
 | .inl (er,at0)=>e=.returned (.tuple #[sZ,nI (er:Nat),nI (at0:Nat)])
 | .inr ts=>∃(P:RP) (v:Value),P.ts=ts/\P.en=l.length/\e=.returned (.tuple #[v,nI (BX P).1,nI (BX P).2.1])/\NL w' w.heap.size v (BX P).2.2/\∀n∈(BX P).2.2,n.Fit
def BI.pass{S S':List Nd->Nat->Int->Prop}{G:Nat}{w wr I:World}{a0 k o:Nat}{v:Value}{ns:List Nd}{d:Int}(h:BI S P G w a0 wr v k ns o d)(D:Ok wr I)(J:S' ns o d):BI S' P G w a0 I v k ns o d :=
 ⟨za1 h.1 D,h.2.1,h.2.2.1.ok D,h.2.2.2.1.trans (Fr.of D),⟨h.2.2.2.2.1.le,h.2.2.2.2.1.len,h.2.2.2.2.1.fit,J⟩,h.2.2.2.2.2⟩
def Ok.fr{w W w':World}{d:Nat}(h:Ok w W)(o:Fr d W w')(D:w.heap.size<=d):Ok w w':=h.grown o (λb e=>by have:=aI e;omega)
def yi8:∀(f:Nat) (l:List UInt8) (i o d:Nat),wa9 f l i=.inl (o,d)->20<=o
 | 0,l,i,o,d,h=>by cases h
 | f+1,[],i,o,d,h=>by cases h
 | f+1,c::r,i,o,d,h=>by
  by_cases D:0<EN (c::r)
  ·rw[zA6 (dW _ _) D]at h
   exact yi8 f _ _ _ _ h
  cases G:BC (c::r) with
  | inl e =>
   rw[zA7 (dW _ _) D G]at h;cases h;exact zG7 G
  | inr p =>
   obtain⟨k,t,n⟩:=p;rw[zA8 (dW _ _) D G]at h
   cases I:wa9 f ((c::r).drop t.length) (i+t.length) with
   | inl e=>rw[I]at h;cases h;exact yi8 f _ _ _ _ I
   | inr rs=>rw[I]at h;cases h
def zr3{l:List UInt8}{o d:Nat}(h:DY l=.inl (o,d)):20<=o:=by
 unfold DY at h
 split at h
 ·cases h;decide
 exact yi8 _ _ _ _ _ h
set_option maxHeartbeats 4000000 in
def zH7(s:ByteArray)(w:World) :
  Calls Tryz.prog 24 #[.string s] w λe w'=>we7 w s.toList e w'/\Ok w w':=by
 cases a8:DY s.toList with
 | inl p =>
  obtain⟨d,G⟩:=p;have a4:=hid a8;have I:((d:Int) != 0)=true:=by rw[dO];have:=zr3 a8;omega
  have D:((d:Int)==0)=false:=by rw[aF];have:=zr3 a8;omega
  clear a8;go_enter Tryz.func24,Tryz.ntmps24
  go_wp2_with (first
   |(go_at_call 43;refine(zx8 s _).mono ?_;rintro e w1 ⟨ht,J⟩;unfold we4 at ht;rw[a4.o]at ht;subst ht;have HK:=hid J;clear J)
   | fail)
  (try simp only[Exit.inBlock,Exit.then]);refine bodyPost_ret (results_tmp3 rfl _ _ _) rfl ?_;refine⟨?_,HK.o⟩;unfold we7;rw[a4.o];rfl
 | inr ts =>
  have a4:=hid a8;have d3:Hi (s.size<=8192/\ts.length<=8192):=by have:=zB8 a8;rw[zc2]at this;exact⟨this.1,this.2.1⟩
  clear a8;go_enter Tryz.func24,Tryz.ntmps24
  go_wp2_with (first
   |(go_at_call 43;refine(zx8 s _).mono ?_;rintro e w1 ⟨ht,J⟩;unfold we4 at ht;rw[a4.o]at ht;obtain⟨tv,xs,rfl,b7,c4⟩:=ht;obtain⟨ao,cp,rfl⟩:=za0 b7;have HK:=hid J;have D:Hi (w1.ownsRow w.heap.size 164 4 (.slice ao ts.length cp) ts.length xs/\wb1 xs ts):=⟨b7,c4⟩;clear J b7 c4)
   | fail)
  obtain⟨W,I⟩:=qq (w1.alloc (.cells #[.slice ao ts.length cp,nI 0,nI (s.size:Nat),nI (-1)] 127));rw[<-I];obtain⟨P,K⟩:∃P:RP,P=⟨.slice ao ts.length cp,w.heap.size,xs,ts,s.size⟩:=⟨_,rfl⟩;obtain⟨rb,d⟩:=qq (w1.heap.size);rw[<-d];have Z:Hi (P.ts=ts/\P.en=s.size):=by unfold Hi;rw[K];exact⟨rfl,rfl⟩
  have HG:Hi (GT P):=GT.of (l:=s.toList) (by rw[Z.o.1];exact a4.o)
  have H:Hi (RI P rb W 0 (-1)):=by unfold Hi;rw[K,I,d];exact⟨za3 _ _,za1 D.o.1 ((Ok.refl w1).alloc _),D.o.2,λb hb=>by have:=(D.o.1.lt b hb).2;omega,zL_ _,by have:=d3.o;exact⟨by show ts.length<=1000000;omega,by show s.size<=1000000;omega⟩⟩
  have b8:Hi (Ok w W):=by rw[I];exact HK.o.alloc _
  have c8:Hi (w.heap.size<=rb):=by rw[d];exact HK.o.le
  have G:(P.ts.length:Nat)=ts.length:=by rw[Z.o.1]
  have f4:=hid G;clear I K d D G;have d8:Hi (BI (DlS P) P rb W 0 W (sZ) 0 [] 0 (-1)):=⟨World.ownsRow_nil _ _ _ _,rfl,H.o,Fr.refl _ _,wf1.zero _ _ _ (DlS.begin P),H.o.lt⟩;go_loopw [9] (λv wr=>∃(oo:Option Addr) (oc:Nat) (ns:List Nd) (K:Nat) (d:Int),v=.slice oo ns.length oc/\Hi (BI (DlS P) P rb W 0 wr (.slice oo ns.length oc) ns.length ns K d)) (λ_ wr=>(P.ts.length-atOf rb wr)*2+(if badOf rb wr<0 then 1 else 0))
  case atStart=>exact⟨none,0,[],0,-1,rfl,d8⟩
  obtain⟨oo,oc,ns,K,d,rfl,D⟩:=hrel
  cases hv:(isS P K d [118,97,114]||isS P K d [97,114,114,97,121]) with
  | true =>
   have HV:=hid hv
   have HY:Hi (d<0/\K<P.ts.length):=by
    rw[cR]at hv
    rcases hv with hv | hv<;>exact zb9 hv
   clear hv
   cases R:isS P K d [118,97,114] with
   | true =>
    have a9:=hid R;clear R
    go_wp2_with (first
     |(go_at_call_of 44 ((⟨#[118,97,114]⟩:ByteArray));refine mq (zb1 P rb _ K d _ D.o.2.2.1) λw5 J=>?_;rw[show isS P K d (⟨#[118,97,114]⟩:ByteArray).toList=true by(rw[ByteArray.toList_eq];exact a9.o)];have b9:=hid (D.o.2.2.1.ok J);have a1:=hid J;clear J)
     |(go_at_call 45;refine(zR9 P rb HG.o _ K d b9.o HY.o.1 HY.o.2).mono ?_;rintro e w6 ⟨v6,ms,a2,L,rfl,a7,a5,a6,Y⟩;have I:Hi (NL w6 w5.heap.size v6 ms/\RI P rb w6 a2 L/\Fr rb w5 w6/\Got (DeS P K d) P K d ms a2 L):=⟨a7,a5,a6,Y⟩;clear a7 a5 a6 Y)
     |(at_builtin;refine zd8 rfl _ _ rfl W.heap.size _ ns.length ns (by rfl) (NL.fr (za1 D.o.1 a1.o) I.o.2.2.1 (λb hb=>by have h1:=(D.o.1.lt b hb).1;have h2:=D.o.2.2.2.2.2;omega)) w5.heap.size v6 ms (by rfl) I.o.1 (by have h1:=D.o.2.2.2.2.1.len' HG.o D.o.2.2.1.le;have h2:=I.o.2.2.2.len' HG.o I.o.2.1.le;omega) (by have h1:=D.o.2.2.2.1.le;have h2:=a1.o.le;have h3:=I.o.2.2.1.le;omega) ?_;intro v7 w7 G O;have X:=hid (BI.more H.o D.o HY.o.1 a1.o I.o.2.2.1 I.o.2.1 I.o.2.2.2 (D.o.2.2.2.2.1.sem.next HV.o HY.o.1 I.o.2.2.2.sem (I.o.2.2.2.on HY.o.1) I.o.2.2.2.le I.o.2.1.le) G O);obtain⟨o7,c7,rfl⟩:=za0 G;clear G O)
     | fail)
    go_roundw
    case rel=>exact⟨o7,c7,ns++ms,a2,L,by rw[aA],(by have h:=X.o;rw[<-aA]at h;exact h)⟩
    case measure =>
     have e1:=X.o.2.2.1.atOf;have e2:=D.o.2.2.1.atOf;have e3:=X.o.2.2.1.badOf;have e4:=D.o.2.2.1.badOf;have h1:=I.o.2.2.2.le;have h2:=I.o.2.2.2.on HY.o.1;have h4:=X.o.2.2.1.le;rw[e1,e2,e3,e4,aG HY.o.1]
     split
     ·rcases h2 with h2 | h2<;>omega
     omega
   | false =>
    have a9:=hid R;have b3:Hi (isS P K d [97,114,114,97,121]=true):=by have:=HV.o;rw[R]at this;exact this
    clear R
    go_wp2_with (first
     |(go_at_call_of 44 ((⟨#[118,97,114]⟩:ByteArray));refine mq (zb1 P rb _ K d _ D.o.2.2.1) λw4 J=>?_;rw[show isS P K d (⟨#[118,97,114]⟩:ByteArray).toList=false by(rw[ByteArray.toList_eq];exact a9.o)];have b1:=hid (D.o.2.2.1.ok J);have b2:=hid J;clear J)
     |(go_at_call_of 44 ((⟨#[97,114,114,97,121]⟩:ByteArray));refine isC b1.o b2.o b3.o λw5 b9 a1=>?_)
     |(go_at_call 45;refine(zR9 P rb HG.o _ K d b9.o HY.o.1 HY.o.2).mono ?_;rintro e w6 ⟨v6,ms,a2,L,rfl,a7,a5,a6,Y⟩;have I:Hi (NL w6 w5.heap.size v6 ms/\RI P rb w6 a2 L/\Fr rb w5 w6/\Got (DeS P K d) P K d ms a2 L):=⟨a7,a5,a6,Y⟩;clear a7 a5 a6 Y)
     |(at_builtin;refine zd8 rfl _ _ rfl W.heap.size _ ns.length ns (by rfl) (NL.fr (za1 D.o.1 a1.o) I.o.2.2.1 (λb hb=>by have h1:=(D.o.1.lt b hb).1;have h2:=D.o.2.2.2.2.2;omega)) w5.heap.size v6 ms (by rfl) I.o.1 (by have h1:=D.o.2.2.2.2.1.len' HG.o D.o.2.2.1.le;have h2:=I.o.2.2.2.len' HG.o I.o.2.1.le;omega) (by have h1:=D.o.2.2.2.1.le;have h2:=a1.o.le;have h3:=I.o.2.2.1.le;omega) ?_;intro v7 w7 G O;have X:=hid (BI.more H.o D.o HY.o.1 a1.o I.o.2.2.1 I.o.2.1 I.o.2.2.2 (D.o.2.2.2.2.1.sem.next HV.o HY.o.1 I.o.2.2.2.sem (I.o.2.2.2.on HY.o.1) I.o.2.2.2.le I.o.2.1.le) G O);obtain⟨o7,c7,rfl⟩:=za0 G;clear G O)
     | fail)
    go_roundw
    case rel=>exact⟨o7,c7,ns++ms,a2,L,by rw[aA],(by have h:=X.o;rw[<-aA]at h;exact h)⟩
    case measure =>
     have e1:=X.o.2.2.1.atOf;have e2:=D.o.2.2.1.atOf;have e3:=X.o.2.2.1.badOf;have e4:=D.o.2.2.1.badOf;have h1:=I.o.2.2.2.le;have h2:=I.o.2.2.2.on HY.o.1;have h4:=X.o.2.2.1.le;rw[e1,e2,e3,e4,aG HY.o.1]
     split
     ·rcases h2 with h2 | h2<;>omega
     omega
  | false =>
   have HV:=hid hv;have a9:=hid ((iO.1 hv).1);have b3:=hid ((iO.1 hv).2);clear hv
   go_wp2_with (first
    |(go_at_call_of 44 ((⟨#[118,97,114]⟩:ByteArray));refine mq (zb1 P rb _ K d _ D.o.2.2.1) λw4 J=>?_;rw[show isS P K d (⟨#[118,97,114]⟩:ByteArray).toList=false by(rw[ByteArray.toList_eq];exact a9.o)];have b1:=hid (D.o.2.2.1.ok J);have b2:=hid J;clear J)
    |(go_at_call_of 44 ((⟨#[97,114,114,97,121]⟩:ByteArray));refine mq (zb1 P rb _ K d _ b1.o) λw5 J=>?_;rw[show isS P K d (⟨#[97,114,114,97,121]⟩:ByteArray).toList=false by(rw[ByteArray.toList_eq];exact b3.o)];have R:=hid (BI.pass D.o (b2.o.step J) (D.o.2.2.2.2.1.sem.fin HV.o D.o.2.2.1.le));clear J)
    | fail)
   clear D a9 b3 HV b1 b2;go_loopw [9] (λv wr=>∃(oo:Option Addr) (oc:Nat) (ns:List Nd) (K:Nat) (d:Int),v=.slice oo ns.length oc/\Hi (BI (SlS P) P rb W 0 wr (.slice oo ns.length oc) ns.length ns K d)) (λ_ wr=>(P.ts.length-atOf rb wr)*2+(if badOf rb wr<0 then 1 else 0))
   case atStart=>exact⟨oo,oc,ns,K,d,rfl,R⟩
   clear R;clear oo oc ns K d;obtain⟨oo,oc,ns,K,d,rfl,D⟩:=hrel;obtain⟨f0,f1,f2,f3,z0,z1,z2,z3⟩:=za6 D.o.2.2.1.row;have c3:=D.o.2.2.1.lt;by_cases hb:d<0
   ·have d1:decide (d<0)=true:=dT_ hb
    have b6:=hid hb;by_cases ha:K<ts.length
    ·have d4:(K:Int)<(ts.length:Int):=za5 ha
     have d6:decide (K<ts.length)=true:=dT_ ha;have HY:Hi (d<0/\K<P.ts.length):=⟨hb,by rw[Z.o.1];exact ha⟩;have a1:=hid (Ok.refl wr)
     go_wp2_with (first
      |(go_at_call 46;refine(zB7 P rb HG.o _ K d D.o.2.2.1).mono ?_;rintro e w6 ⟨v6,ms,a2,L,rfl,a7,a5,a6,Y⟩;have I:Hi (NL w6 wr.heap.size v6 ms/\RI P rb w6 a2 L/\Fr rb wr w6/\Got (StS P K d) P K d ms a2 L):=⟨a7,a5,a6,Y⟩;clear a7 a5 a6 Y f0 f1 f2 f3 z0 z1 z2 z3 c3)
      |(at_builtin;refine zd8 rfl _ _ rfl W.heap.size _ ns.length ns (by rfl) (NL.fr (za1 D.o.1 a1.o) I.o.2.2.1 (λb hb=>by have h1:=(D.o.1.lt b hb).1;have h2:=D.o.2.2.2.2.2;omega)) wr.heap.size v6 ms (by rfl) I.o.1 (by have h1:=D.o.2.2.2.2.1.len' HG.o D.o.2.2.1.le;have h2:=I.o.2.2.2.len' HG.o I.o.2.1.le;omega) (by have h1:=D.o.2.2.2.1.le;have h2:=a1.o.le;have h3:=I.o.2.2.1.le;omega) ?_;intro v7 w7 G O;have X:=hid (BI.more H.o D.o HY.o.1 a1.o I.o.2.2.1 I.o.2.1 I.o.2.2.2 (D.o.2.2.2.2.1.sem.next HY.o.1 HY.o.2 I.o.2.2.2.sem (I.o.2.2.2.on HY.o.1) I.o.2.2.2.le I.o.2.1.le) G O);obtain⟨o7,c7,rfl⟩:=za0 G;clear G O)
      | fail)
     go_roundw
     case rel=>exact⟨o7,c7,ns++ms,a2,L,by rw[aA],(by have h:=X.o;rw[<-aA]at h;exact h)⟩
     case measure =>
      have e1:=X.o.2.2.1.atOf;have e2:=D.o.2.2.1.atOf;have e3:=X.o.2.2.1.badOf;have e4:=D.o.2.2.1.badOf;have h1:=I.o.2.2.2.le;have h2:=I.o.2.2.2.on HY.o.1;have h4:=X.o.2.2.1.le;rw[e1,e2,e3,e4,aG HY.o.1]
      split
      ·rcases h2 with h2 | h2<;>omega
      omega
    have d4:¬(K:Int)<(ts.length:Int):=zb2 ha;have d6:decide (K<ts.length)=false:=dF_ ha;have c2:Hi (paF P=(ns,K,d)):=SlS.fin D.o.2.2.2.2.1.sem (.inr (by rw[Z.o.1];exact ha));have b5:¬(0:Int)<=d:=oM;have c9:decide ((0:Int)<=d)=false:=dF_ b5;have c1:=hid (b8.o.fr D.o.2.2.2.1 c8.o);have a3:Hi (NL wr w.heap.size (.slice oo ns.length oc) ns/\∀n∈ns,n.Fit):=⟨za7 D.o.1 b8.o.le,D.o.2.2.2.2.1.fit⟩;have d5:=hid (D.o.2.2.2.2.1.len' HG.o D.o.2.2.1.le);by_cases h3:300<ns.length
    ·have d9:(300:Int)<(ns.length:Int):=oM
     obtain⟨n,hn⟩:∃n,ns[300]?=some n:=⟨ns[300],gG_ h3⟩
     obtain⟨g,hg⟩:∃g,oo=some ⟨g,0,none⟩:=by
      obtain⟨g,c,e,_⟩:=a3.o.1.form oM
      injection e with e1
      exact⟨g,e1⟩
     subst hg;have c5:=a3.o.1.cells (g:=g) rfl _ _ (zg3 hn).2.2.2.2.2;rw[zb7,aL]at c5;simp only[Nat.reduceMul,Nat.reduceAdd]at c5;have d2:=(a3.o.1.lt g rfl).2;have R:=hid (yi6 c2.o b6.o hn);clear hn;go_wp2_with fail;go_quiet (fail);go_wp2_with fail;(try simp only[Exit.inBlock,Exit.then]);refine bodyPost_ret (results_tmp3 rfl _ _ _) rfl ?_;refine⟨?_,c1.o.draws _⟩;unfold we7;rw[a4.o];exact⟨P,sZ,Z.o.1,by rw[zc2];exact Z.o.2,(by rw[R.o]<;>rfl),by rw[R.o];exact World.ownsRow_nil _ _ _ _,by rw[R.o];intro n hn;cases hn⟩
    have d9:¬(300:Int)<(ns.length:Int):=oM;have H3:Hi (ns[300]?=none):=aS oM;clear h3;go_wp2_with fail;clear f0 f1 f2 f3 z0 z1 z2 z3 c3;obtain⟨W3,d7⟩:=qq (wr);subst d7;go_loopw [10] (λx wr=>wr=W3/\∃k:Nat,k<=ns.length/\x=nI (k:Nat)/\Hi (dpF ns=dpF (ns.drop k))) (λx _=>((ns.length:Int)-intOf x).toNat)
    case atStart=>exact⟨rfl,0,zL_ _,rfl,rfl⟩
    obtain⟨rfl,k,hk,rfl,HD⟩:=hrel;by_cases b0:k<ns.length
    ·have c6:(k:Int)<(ns.length:Int):=za5 b0
     have f5:IntKind.i64.wrap ((k:Int)+1)=((k+1:Nat):Int):=zb3 (oH d5.o);obtain⟨n,hn⟩:∃n,ns[k]?=some n:=⟨ns[k],gG_ b0⟩
     obtain⟨g,hg⟩:∃g,oo=some ⟨g,0,none⟩:=by
      obtain⟨g,c,e,_⟩:=a3.o.1.form oM
      injection e with e1
      exact⟨g,e1⟩
     subst hg;have c0:=a3.o.1.cells (g:=g) rfl _ _ (zg3 hn).1;have c5:=a3.o.1.cells (g:=g) rfl _ _ (zg3 hn).2.2.2.2.2;rw[zb7,aL]at c0 c5;have d2:=(a3.o.1.lt g rfl).2;have b4:=yt3 hn;by_cases hd:24<n.depth
     ·have R:Hi (BX P=(31,n.pos,[])):=yi7 c2.o b6.o H3.o (by rw[HD.o,b4,aG hd])
      clear hn b4;go_wp2_with fail;go_quiet (fail);go_wp2_with fail;(try simp only[Exit.inBlock,Exit.then]);refine bodyPost_ret (results_tmp3 rfl _ _ _) rfl ?_;refine⟨?_,c1.o.draws _⟩;unfold we7;rw[a4.o];exact⟨P,sZ,Z.o.1,by rw[zc2];exact Z.o.2,(by rw[R.o]<;>rfl),by rw[R.o];exact World.ownsRow_nil _ _ _ _,by rw[R.o];intro n hn;cases hn⟩
     have d0:Hi (dpF ns=dpF (ns.drop (k+1))):=by unfold Hi;rw[HD.o,b4,aC hd]
     clear hn b4;go_wp2_with fail;go_roundw
     case rel=>exact⟨trivial,k+1,b0,rfl,d0⟩
     case measure=>exact we3 b0
    have c6:¬(k:Int)<(ns.length:Int):=zb2 b0;have R:Hi (BX P=(0,0,ns)):=yC0 c2.o b6.o H3.o (by rw[HD.o,cP oM];rfl);go_wp2_with fail;(try simp only[Exit.inBlock,Exit.then]);refine bodyPost_ret (results_tmp3 rfl _ _ _) rfl ?_;refine⟨?_,c1.o⟩;unfold we7;rw[a4.o];exact⟨P,_,Z.o.1,by rw[zc2];exact Z.o.2,(by rw[R.o]<;>rfl),by rw[R.o];exact a3.o.1,by rw[R.o];exact a3.o.2⟩
   have d1:decide (d<0)=false:=dF_ hb;have b5:(0:Int)<=d:=oM;have c9:decide ((0:Int)<=d)=true:=dT_ b5;have R:Hi (BX P=(30,d,[])):=yt4 (SlS.fin D.o.2.2.2.2.1.sem (.inl hb)) hb;go_wp2_with fail;go_quiet (fail);go_wp2_with fail;(try simp only[Exit.inBlock,Exit.then]);refine bodyPost_ret (results_tmp3 rfl _ _ _) rfl ?_;refine⟨?_,(b8.o.fr D.o.2.2.2.1 c8.o).draws _⟩;unfold we7;rw[a4.o];exact⟨P,sZ,Z.o.1,by rw[zc2];exact Z.o.2,(by rw[R.o]<;>rfl),by rw[R.o];exact World.ownsRow_nil _ _ _ _,by rw[R.o];intro n hn;cases hn⟩
end Go.Proofs.YthoegkcpmgalbaaGreatDoor
