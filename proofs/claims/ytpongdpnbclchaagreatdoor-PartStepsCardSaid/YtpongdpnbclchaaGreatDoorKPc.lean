import Derived.Test.YtpongdpnbclchaaGreatDoorKPa
set_option linter.all false
set_option maxRecDepth 100000
namespace Go.Proofs.YtpongdpnbclchaaGreatDoor
variable{P:RP}{a:Nat}{bad:Int}
section
open Go.RowKit
def dlF(P:RP):Nat->List Nd->Nat->Int->List Nd×Nat×Int
 | 0,l,a,bad=>(l,a,bad)
 | k+1,l,a,bad=>if isS P a bad [118,97,114]||isS P a bad [97,114,114,97,121] then dlF P k (l++(deF P a bad).1) (deF P a bad).2.1 (deF P a bad).2.2 else (l,a,bad)
def stA(P:RP)(a:Nat)(bad:Int):List Nd×Nat×Int:=stF P (P.ts.length*10+10) 0 a bad
def slF(P:RP):Nat->List Nd->Nat->Int->List Nd×Nat×Int
 | 0,l,a,bad=>(l,a,bad)
 | k+1,l,a,bad=>if decide (bad<0)&&decide (a<P.ts.length) then slF P k (l++(stA P a bad).1) (stA P a bad).2.1 (stA P a bad).2.2 else (l,a,bad)
def slL(P:RP)(r:List Nd×Nat×Int):List Nd×Nat×Int:=slF P (P.ts.length*2+2) r.1 r.2.1 r.2.2
def paF(P:RP):List Nd×Nat×Int:=slL P (dlF P (P.ts.length*2+2) [] 0 (-1))
def DlS(P:RP)(l:List Nd)(a:Nat)(bad:Int):Prop:=∃k,(P.ts.length-a)*2+(if bad<0 then 1 else 0)<=k/\paF P=slL P (dlF P k l a bad)
def SlS(P:RP)(l:List Nd)(a:Nat)(bad:Int):Prop:=∃k,(P.ts.length-a)*2+(if bad<0 then 1 else 0)<=k/\paF P=slF P k l a bad
theorem DlS.begin(P:RP):DlS P [] 0 (-1):=⟨_,by rw[if_pos (by omega)];omega,rfl⟩
theorem DlS.next{l ms:List Nd}{a2:Nat}{bad2:Int}(h:DlS P l a bad)(hi:(isS P a bad [118,97,114]||isS P a bad [97,114,114,97,121])=true)(hb:bad<0)(hs:DeS P a bad ms a2 bad2)(hg:a<a2\/0<=bad2)(hle:a<=a2)(hle3:a2<=P.ts.length):DlS P (l++ms) a2 bad2:=by
 obtain⟨k,hk,e⟩:=h;rw[if_pos hb]at hk;obtain⟨k,rfl,_⟩:=fuel (n:=0) (f:=k) oM;refine⟨k,?_,?_⟩
 ·split
  ·rcases hg with hg | hg<;>omega
  omega
 have hs':deF P a bad=(ms,a2,bad2):=hs;rw[e,dlF,hi,if_pos rfl,hs']
theorem DlS.fin{l:List Nd}(h:DlS P l a bad)(hi:(isS P a bad [118,97,114]||isS P a bad [97,114,114,97,121])=false)(ha:a<=P.ts.length):SlS P l a bad:=by
 obtain⟨k,hk,e⟩:=h;refine⟨P.ts.length*2+2,by split<;>omega,?_⟩;rw[e]
 cases k with
 | zero=>rfl
 | succ k=>rw[dlF,hi];rfl
theorem SlS.next{l ms:List Nd}{a2:Nat}{bad2:Int}(h:SlS P l a bad)(hb:bad<0)(ha:a<P.ts.length)(hs:StS P a bad ms a2 bad2)(hg:a<a2\/0<=bad2)(hle:a<=a2)(hle3:a2<=P.ts.length):SlS P (l++ms) a2 bad2:=by
 obtain⟨k,hk,e⟩:=h;rw[if_pos hb]at hk;obtain⟨k,rfl,_⟩:=fuel (n:=0) (f:=k) oM;refine⟨k,?_,?_⟩
 ·split
  ·rcases hg with hg | hg<;>omega
  omega
 have hs':stA P a bad=(ms,a2,bad2):=hs _ oM;rw[e,slF,decide_eq_true hb,decide_eq_true ha,if_pos (by rfl),hs']
theorem SlS.fin{l:List Nd}(h:SlS P l a bad)(hb:¬bad<0\/¬a<P.ts.length):paF P=(l,a,bad):=by
 obtain⟨k,hk,e⟩:=h;rw[e]
 cases k with
 | zero=>rfl
 | succ k =>
  rw[slF];rcases hb with hb | hb
  ·rw[decide_eq_false hb];rfl
  rw[decide_eq_false hb,Bool.and_false];rfl
def dpF:List Nd->Option Nd
 | []=>none
 | n::r=>if 24<n.depth then some n else dpF r
def BY(P:RP):Int×Int×List Nd :=
 if 0<=(paF P).2.2 then (30,(paF P).2.2,[])
 else match (paF P).1[300]? with
  | some n=>(32,n.pos,[])
  | none=>match dpF (paF P).1 with
   | some n=>(31,n.pos,[])
   | none=>(0,0,(paF P).1)
theorem yt3{ns:List Nd}{k:Nat}{n:Nd}(h:ns[k]?=some n):dpF (ns.drop k)=if 24<n.depth then some n else dpF (ns.drop (k+1)):=by obtain⟨hk,e⟩:=List.getElem?_eq_some_iff.1 h;rw[List.drop_eq_getElem_cons hk,e];rfl
theorem yt4{l:List Nd}(h:paF P=(l,a,bad))(hb:¬bad<0):BY P=(30,bad,[]):=by unfold BY;rw[h,if_pos (by show 0<=bad;omega)]
theorem yi6{l:List Nd}{n:Nd}(h:paF P=(l,a,bad))(hb:bad<0)(hn:l[300]?=some n):BY P=(32,n.pos,[]):=by unfold BY;rw[h,if_neg (by show ¬0<=bad;omega)];simp only[hn]
theorem yi7{l:List Nd}{n:Nd}(h:paF P=(l,a,bad))(hb:bad<0)(hn:l[300]?=none)(hd:dpF l=some n):BY P=(31,n.pos,[]):=by unfold BY;rw[h,if_neg (by show ¬0<=bad;omega)];simp only[hn,hd]
theorem yC0{l:List Nd}(h:paF P=(l,a,bad))(hb:bad<0)(hn:l[300]?=none)(hd:dpF l=none):BY P=(0,0,l):=by unfold BY;rw[h,if_neg (by show ¬0<=bad;omega)];simp only[hn,hd]
end
section
open Go.RowKit
def we8(w:World)(l:List UInt8)(e:Ending)(w':World):Prop :=
 match DS l with
 | .inl (er,at0)=>e=.returned (.tuple #[sZ,nI (er:Nat),nI (at0:Nat)])
 | .inr ts=>∃(P:RP) (v:Value),P.ts=ts/\P.en=l.length/\e=.returned (.tuple #[v,nI (BY P).1,nI (BY P).2.1])/\NL w' w.heap.size v (BY P).2.2/\∀n∈(BY P).2.2,n.Fit
theorem BI.pass{S S':List Nd->Nat->Int->Prop}{rb:Nat}{w wr w1:World}{a0 k ac:Nat}{v:Value}{ns:List Nd}{badc:Int}(h:BI S P rb w a0 wr v k ns ac badc)(hk:Ok wr w1)(hs:S' ns ac badc):BI S' P rb w a0 w1 v k ns ac badc :=
 ⟨za1 h.1 hk,h.2.1,h.2.2.1.ok hk,h.2.2.2.1.trans (Fr.of hk),⟨h.2.2.2.2.1.le,h.2.2.2.2.1.len,h.2.2.2.2.1.fit,hs⟩,h.2.2.2.2.2⟩
theorem Ok.fr{w W w':World}{rb:Nat}(h:Ok w W)(hf:Fr rb W w')(hb:w.heap.size<=rb):Ok w w':=h.grown hf (λb e=>by have:=Option.some.inj e;omega)
theorem yi8:∀(f:Nat) (l:List UInt8) (i er at0:Nat),wb0 f l i=.inl (er,at0)->20<=er
 | 0,l,i,er,at0,h=>by cases h
 | f+1,[],i,er,at0,h=>by cases h
 | f+1,c::r,i,er,at0,h=>by
  by_cases hb:0<EL (c::r)
  ·rw[zA6 (List.cons_ne_nil _ _) hb]at h
   exact yi8 f _ _ _ _ h
  cases hp:BB (c::r) with
  | inl e =>
   rw[zA7 (List.cons_ne_nil _ _) hb hp]at h;cases h;exact zG7 hp
  | inr p =>
   obtain⟨k,t,n⟩:=p;rw[zA8 (List.cons_ne_nil _ _) hb hp]at h
   cases hr:wb0 f ((c::r).drop t.length) (i+t.length) with
   | inl e=>rw[hr]at h;cases h;exact yi8 f _ _ _ _ hr
   | inr rs=>rw[hr]at h;cases h
theorem zr3{l:List UInt8}{er at0:Nat}(h:DS l=.inl (er,at0)):20<=er:=by
 unfold DS at h
 split at h
 ·cases h;decide
 exact yi8 _ _ _ _ _ h
set_option maxHeartbeats 4000000 in
theorem zH7(s:ByteArray)(w:World) :
  Calls Tryz.prog 21 #[.string s] w λe w'=>we8 w s.toList e w'/\Ok w w':=by
 cases hlx:DS s.toList with
 | inl p =>
  obtain⟨er,at0⟩:=p;have HLX:=hid hlx;have her:((er:Int) != 0)=true:=by rw[bne_iff_ne];have:=zr3 hlx;omega
  have her2:((er:Int)==0)=false:=by rw[beq_eq_false_iff_ne];have:=zr3 hlx;omega
  clear hlx;go_enter Tryz.func21,Tryz.ntmps21
  go_wp2_with (first
   |(go_at_call 38;refine(zx8 s _).mono ?_;rintro e w1 ⟨ht,hok⟩;unfold we4 at ht;rw[HLX.o]at ht;subst ht;have HK:=hid hok;clear hok)
   | fail)
  (try simp only[Exit.inBlock,Exit.then]);refine bodyPost_ret (results_tmp3 rfl _ _ _) rfl ?_;refine⟨?_,HK.o⟩;unfold we8;rw[HLX.o];rfl
 | inr ts =>
  have HLX:=hid hlx;have HSZ:Hi (s.size<=8192/\ts.length<=8192):=by have:=zB8 hlx;rw[zc2]at this;exact⟨this.1,this.2.1⟩
  clear hlx;go_enter Tryz.func21,Tryz.ntmps21
  go_wp2_with (first
   |(go_at_call 38;refine(zx8 s _).mono ?_;rintro e w1 ⟨ht,hok⟩;unfold we4 at ht;rw[HLX.o]at ht;obtain⟨tv,xs,rfl,how,htk⟩:=ht;obtain⟨ao,cp,rfl⟩:=za0 how;have HK:=hid hok;have HOW:Hi (w1.ownsRow w.heap.size 148 4 (.slice ao ts.length cp) ts.length xs/\wb2 xs ts):=⟨how,htk⟩;clear hok how htk)
   | fail)
  obtain⟨W,hW⟩:=qq (w1.alloc (.cells #[.slice ao ts.length cp,nI 0,nI (s.size:Nat),nI (-1)] 105));rw[<-hW];obtain⟨P,hP⟩:∃P:RP,P=⟨.slice ao ts.length cp,w.heap.size,xs,ts,s.size⟩:=⟨_,rfl⟩;obtain⟨rb,hrb⟩:=qq (w1.heap.size);rw[<-hrb];have HPT:Hi (P.ts=ts/\P.en=s.size):=by unfold Hi;rw[hP];exact⟨rfl,rfl⟩
  have HG:Hi (GT P):=GT.of (l:=s.toList) (by rw[HPT.o.1];exact HLX.o)
  have H:Hi (RI P rb W 0 (-1)):=by unfold Hi;rw[hP,hW,hrb];exact⟨za3 _ _,za1 HOW.o.1 ((Ok.refl w1).alloc _),HOW.o.2,λb hb=>by have:=(HOW.o.1.lt b hb).2;omega,zL_ _,by have:=HSZ.o;exact⟨by show ts.length<=1000000;omega,by show s.size<=1000000;omega⟩⟩
  have HKW:Hi (Ok w W):=by rw[hW];exact HK.o.alloc _
  have HRB:Hi (w.heap.size<=rb):=by rw[hrb];exact HK.o.le
  have hlen:(P.ts.length:Nat)=ts.length:=by rw[HPT.o.1]
  have HLE:=hid hlen;clear hW hP hrb HOW hlen;have HX0:Hi (BI (DlS P) P rb W 0 W (sZ) 0 [] 0 (-1)):=⟨World.ownsRow_nil _ _ _ _,rfl,H.o,Fr.refl _ _,wf2.zero _ _ _ (DlS.begin P),H.o.lt⟩;go_loopw [9] (λv wr=>∃(oo:Option Addr) (oc:Nat) (ns:List Nd) (ac:Nat) (badc:Int),v=.slice oo ns.length oc/\Hi (BI (DlS P) P rb W 0 wr (.slice oo ns.length oc) ns.length ns ac badc)) (λ_ wr=>(P.ts.length-atOf rb wr)*2+(if badOf rb wr<0 then 1 else 0))
  case atStart=>exact⟨none,0,[],0,-1,rfl,HX0⟩
  obtain⟨oo,oc,ns,ac,badc,rfl,HX⟩:=hrel
  cases hv:(isS P ac badc [118,97,114]||isS P ac badc [97,114,114,97,121]) with
  | true =>
   have HV:=hid hv
   have HY:Hi (badc<0/\ac<P.ts.length):=by
    rw[Bool.or_eq_true]at hv
    rcases hv with hv | hv<;>exact zb9 hv
   clear hv
   cases hv1:isS P ac badc [118,97,114] with
   | true =>
    have HI1:=hid hv1;clear hv1
    go_wp2_with (first
     |(go_at_call_of 39 ((⟨#[118,97,114]⟩:ByteArray));refine mq (zb1 P rb _ ac badc _ HX.o.2.2.1) λw5 hok=>?_;rw[show isS P ac badc (⟨#[118,97,114]⟩:ByteArray).toList=true by(rw[ByteArray.toList_eq];exact HI1.o)];have HR5:=hid (HX.o.2.2.1.ok hok);have HK5:=hid hok;clear hok)
     |(go_at_call 40;refine(zR9 P rb HG.o _ ac badc HR5.o HY.o.1 HY.o.2).mono ?_;rintro e w6 ⟨v6,ms,a2,bad2,rfl,hnl,hri,hfr,hgot⟩;have HQ:Hi (NL w6 w5.heap.size v6 ms/\RI P rb w6 a2 bad2/\Fr rb w5 w6/\Got (DeS P ac badc) P ac badc ms a2 bad2):=⟨hnl,hri,hfr,hgot⟩;clear hnl hri hfr hgot)
     |(at_builtin;refine zd8 rfl _ _ rfl W.heap.size _ ns.length ns (by rfl) (NL.fr (za1 HX.o.1 HK5.o) HQ.o.2.2.1 (λb hb=>by have h1:=(HX.o.1.lt b hb).1;have h2:=HX.o.2.2.2.2.2;omega)) w5.heap.size v6 ms (by rfl) HQ.o.1 (by have h1:=HX.o.2.2.2.2.1.len' HG.o HX.o.2.2.1.le;have h2:=HQ.o.2.2.2.len' HG.o HQ.o.2.1.le;omega) (by have h1:=HX.o.2.2.2.1.le;have h2:=HK5.o.le;have h3:=HQ.o.2.2.1.le;omega) ?_;intro v7 w7 hown7 hgrow;have HX7:=hid (BI.more H.o HX.o HY.o.1 HK5.o HQ.o.2.2.1 HQ.o.2.1 HQ.o.2.2.2 (HX.o.2.2.2.2.1.sem.next HV.o HY.o.1 HQ.o.2.2.2.sem (HQ.o.2.2.2.on HY.o.1) HQ.o.2.2.2.le HQ.o.2.1.le) hown7 hgrow);obtain⟨o7,c7,rfl⟩:=za0 hown7;clear hown7 hgrow)
     | fail)
    go_roundw
    case rel=>exact⟨o7,c7,ns++ms,a2,bad2,by rw[List.length_append],(by have h:=HX7.o;rw[<-List.length_append]at h;exact h)⟩
    case measure =>
     have e1:=HX7.o.2.2.1.atOf;have e2:=HX.o.2.2.1.atOf;have e3:=HX7.o.2.2.1.badOf;have e4:=HX.o.2.2.1.badOf;have h1:=HQ.o.2.2.2.le;have h2:=HQ.o.2.2.2.on HY.o.1;have h4:=HX7.o.2.2.1.le;rw[e1,e2,e3,e4,if_pos HY.o.1]
     split
     ·rcases h2 with h2 | h2<;>omega
     omega
   | false =>
    have HI1:=hid hv1;have HI2:Hi (isS P ac badc [97,114,114,97,121]=true):=by have:=HV.o;rw[hv1]at this;exact this
    clear hv1
    go_wp2_with (first
     |(go_at_call_of 39 ((⟨#[118,97,114]⟩:ByteArray));refine mq (zb1 P rb _ ac badc _ HX.o.2.2.1) λw4 hok=>?_;rw[show isS P ac badc (⟨#[118,97,114]⟩:ByteArray).toList=false by(rw[ByteArray.toList_eq];exact HI1.o)];have HR4:=hid (HX.o.2.2.1.ok hok);have HK4:=hid hok;clear hok)
     |(go_at_call_of 39 ((⟨#[97,114,114,97,121]⟩:ByteArray));refine isC HR4.o HK4.o HI2.o λw5 HR5 HK5=>?_)
     |(go_at_call 40;refine(zR9 P rb HG.o _ ac badc HR5.o HY.o.1 HY.o.2).mono ?_;rintro e w6 ⟨v6,ms,a2,bad2,rfl,hnl,hri,hfr,hgot⟩;have HQ:Hi (NL w6 w5.heap.size v6 ms/\RI P rb w6 a2 bad2/\Fr rb w5 w6/\Got (DeS P ac badc) P ac badc ms a2 bad2):=⟨hnl,hri,hfr,hgot⟩;clear hnl hri hfr hgot)
     |(at_builtin;refine zd8 rfl _ _ rfl W.heap.size _ ns.length ns (by rfl) (NL.fr (za1 HX.o.1 HK5.o) HQ.o.2.2.1 (λb hb=>by have h1:=(HX.o.1.lt b hb).1;have h2:=HX.o.2.2.2.2.2;omega)) w5.heap.size v6 ms (by rfl) HQ.o.1 (by have h1:=HX.o.2.2.2.2.1.len' HG.o HX.o.2.2.1.le;have h2:=HQ.o.2.2.2.len' HG.o HQ.o.2.1.le;omega) (by have h1:=HX.o.2.2.2.1.le;have h2:=HK5.o.le;have h3:=HQ.o.2.2.1.le;omega) ?_;intro v7 w7 hown7 hgrow;have HX7:=hid (BI.more H.o HX.o HY.o.1 HK5.o HQ.o.2.2.1 HQ.o.2.1 HQ.o.2.2.2 (HX.o.2.2.2.2.1.sem.next HV.o HY.o.1 HQ.o.2.2.2.sem (HQ.o.2.2.2.on HY.o.1) HQ.o.2.2.2.le HQ.o.2.1.le) hown7 hgrow);obtain⟨o7,c7,rfl⟩:=za0 hown7;clear hown7 hgrow)
     | fail)
    go_roundw
    case rel=>exact⟨o7,c7,ns++ms,a2,bad2,by rw[List.length_append],(by have h:=HX7.o;rw[<-List.length_append]at h;exact h)⟩
    case measure =>
     have e1:=HX7.o.2.2.1.atOf;have e2:=HX.o.2.2.1.atOf;have e3:=HX7.o.2.2.1.badOf;have e4:=HX.o.2.2.1.badOf;have h1:=HQ.o.2.2.2.le;have h2:=HQ.o.2.2.2.on HY.o.1;have h4:=HX7.o.2.2.1.le;rw[e1,e2,e3,e4,if_pos HY.o.1]
     split
     ·rcases h2 with h2 | h2<;>omega
     omega
  | false =>
   have HV:=hid hv;have HI1:=hid ((Bool.or_eq_false_iff.1 hv).1);have HI2:=hid ((Bool.or_eq_false_iff.1 hv).2);clear hv
   go_wp2_with (first
    |(go_at_call_of 39 ((⟨#[118,97,114]⟩:ByteArray));refine mq (zb1 P rb _ ac badc _ HX.o.2.2.1) λw4 hok=>?_;rw[show isS P ac badc (⟨#[118,97,114]⟩:ByteArray).toList=false by(rw[ByteArray.toList_eq];exact HI1.o)];have HR4:=hid (HX.o.2.2.1.ok hok);have HK4:=hid hok;clear hok)
    |(go_at_call_of 39 ((⟨#[97,114,114,97,121]⟩:ByteArray));refine mq (zb1 P rb _ ac badc _ HR4.o) λw5 hok=>?_;rw[show isS P ac badc (⟨#[97,114,114,97,121]⟩:ByteArray).toList=false by(rw[ByteArray.toList_eq];exact HI2.o)];have HX5:=hid (BI.pass HX.o (HK4.o.step hok) (HX.o.2.2.2.2.1.sem.fin HV.o HX.o.2.2.1.le));clear hok)
    | fail)
   clear HX HI1 HI2 HV HR4 HK4;go_loopw [9] (λv wr=>∃(oo:Option Addr) (oc:Nat) (ns:List Nd) (ac:Nat) (badc:Int),v=.slice oo ns.length oc/\Hi (BI (SlS P) P rb W 0 wr (.slice oo ns.length oc) ns.length ns ac badc)) (λ_ wr=>(P.ts.length-atOf rb wr)*2+(if badOf rb wr<0 then 1 else 0))
   case atStart=>exact⟨oo,oc,ns,ac,badc,rfl,HX5⟩
   clear HX5;clear oo oc ns ac badc;obtain⟨oo,oc,ns,ac,badc,rfl,HX⟩:=hrel;obtain⟨f0,f1,f2,f3,z0,z1,z2,z3⟩:=za6 HX.o.2.2.1.row;have hlt:=HX.o.2.2.1.lt;by_cases hb:badc<0
   ·have hdb:decide (badc<0)=true:=dT_ hb
    have HBC:=hid hb;by_cases ha:ac<ts.length
    ·have ha':(ac:Int)<(ts.length:Int):=za5 ha
     have ha2:decide (ac<ts.length)=true:=dT_ ha;have HY:Hi (badc<0/\ac<P.ts.length):=⟨hb,by rw[HPT.o.1];exact ha⟩;have HK5:=hid (Ok.refl wr)
     go_wp2_with (first
      |(go_at_call 41;refine(zB7 P rb HG.o _ ac badc HX.o.2.2.1).mono ?_;rintro e w6 ⟨v6,ms,a2,bad2,rfl,hnl,hri,hfr,hgot⟩;have HQ:Hi (NL w6 wr.heap.size v6 ms/\RI P rb w6 a2 bad2/\Fr rb wr w6/\Got (StS P ac badc) P ac badc ms a2 bad2):=⟨hnl,hri,hfr,hgot⟩;clear hnl hri hfr hgot f0 f1 f2 f3 z0 z1 z2 z3 hlt)
      |(at_builtin;refine zd8 rfl _ _ rfl W.heap.size _ ns.length ns (by rfl) (NL.fr (za1 HX.o.1 HK5.o) HQ.o.2.2.1 (λb hb=>by have h1:=(HX.o.1.lt b hb).1;have h2:=HX.o.2.2.2.2.2;omega)) wr.heap.size v6 ms (by rfl) HQ.o.1 (by have h1:=HX.o.2.2.2.2.1.len' HG.o HX.o.2.2.1.le;have h2:=HQ.o.2.2.2.len' HG.o HQ.o.2.1.le;omega) (by have h1:=HX.o.2.2.2.1.le;have h2:=HK5.o.le;have h3:=HQ.o.2.2.1.le;omega) ?_;intro v7 w7 hown7 hgrow;have HX7:=hid (BI.more H.o HX.o HY.o.1 HK5.o HQ.o.2.2.1 HQ.o.2.1 HQ.o.2.2.2 (HX.o.2.2.2.2.1.sem.next HY.o.1 HY.o.2 HQ.o.2.2.2.sem (HQ.o.2.2.2.on HY.o.1) HQ.o.2.2.2.le HQ.o.2.1.le) hown7 hgrow);obtain⟨o7,c7,rfl⟩:=za0 hown7;clear hown7 hgrow)
      | fail)
     go_roundw
     case rel=>exact⟨o7,c7,ns++ms,a2,bad2,by rw[List.length_append],(by have h:=HX7.o;rw[<-List.length_append]at h;exact h)⟩
     case measure =>
      have e1:=HX7.o.2.2.1.atOf;have e2:=HX.o.2.2.1.atOf;have e3:=HX7.o.2.2.1.badOf;have e4:=HX.o.2.2.1.badOf;have h1:=HQ.o.2.2.2.le;have h2:=HQ.o.2.2.2.on HY.o.1;have h4:=HX7.o.2.2.1.le;rw[e1,e2,e3,e4,if_pos HY.o.1]
      split
      ·rcases h2 with h2 | h2<;>omega
      omega
    have ha':¬(ac:Int)<(ts.length:Int):=zb2 ha;have ha2:decide (ac<ts.length)=false:=dF_ ha;have HPA:Hi (paF P=(ns,ac,badc)):=SlS.fin HX.o.2.2.2.2.1.sem (.inr (by rw[HPT.o.1];exact ha));have hbn:¬(0:Int)<=badc:=oM;have hbn2:decide ((0:Int)<=badc)=false:=dF_ hbn;have HOK:=hid (HKW.o.fr HX.o.2.2.2.1 HRB.o);have HNL:Hi (NL wr w.heap.size (.slice oo ns.length oc) ns/\∀n∈ns,n.Fit):=⟨za7 HX.o.1 HKW.o.le,HX.o.2.2.2.2.1.fit⟩;have HN6:=hid (HX.o.2.2.2.2.1.len' HG.o HX.o.2.2.1.le);by_cases h3:300<ns.length
    ·have h3':(300:Int)<(ns.length:Int):=oM
     obtain⟨n,hn⟩:∃n,ns[300]?=some n:=⟨ns[300],gG_ h3⟩
     obtain⟨g,hg⟩:∃g,oo=some ⟨g,0,none⟩:=by
      obtain⟨g,c,e,_⟩:=HNL.o.1.form oM
      injection e with e1
      exact⟨g,e1⟩
     subst hg;have c5:=HNL.o.1.cells (g:=g) rfl _ _ (zg3 hn).2.2.2.2.2;rw[zb7,Nat.zero_add]at c5;simp only[Nat.reduceMul,Nat.reduceAdd]at c5;have hgl:=(HNL.o.1.lt g rfl).2;have HPE:=hid (yi6 HPA.o HBC.o hn);clear hn;go_wp2_with fail;go_quiet (fail);go_wp2_with fail;(try simp only[Exit.inBlock,Exit.then]);refine bodyPost_ret (results_tmp3 rfl _ _ _) rfl ?_;refine⟨?_,HOK.o.draws _⟩;unfold we8;rw[HLX.o];exact⟨P,sZ,HPT.o.1,by rw[zc2];exact HPT.o.2,(by rw[HPE.o]<;>rfl),by rw[HPE.o];exact World.ownsRow_nil _ _ _ _,by rw[HPE.o];intro n hn;cases hn⟩
    have h3':¬(300:Int)<(ns.length:Int):=oM;have H3:Hi (ns[300]?=none):=List.getElem?_eq_none oM;clear h3;go_wp2_with fail;clear f0 f1 f2 f3 z0 z1 z2 z3 hlt;obtain⟨W3,hW3⟩:=qq (wr);subst hW3;go_loopw [10] (λx wr=>wr=W3/\∃k:Nat,k<=ns.length/\x=nI (k:Nat)/\Hi (dpF ns=dpF (ns.drop k))) (λx _=>((ns.length:Int)-intOf x).toNat)
    case atStart=>exact⟨rfl,0,zL_ _,rfl,rfl⟩
    obtain⟨rfl,k,hk,rfl,HD⟩:=hrel;by_cases hkl:k<ns.length
    ·have hkl':(k:Int)<(ns.length:Int):=za5 hkl
     have hkw:IntKind.i64.wrap ((k:Int)+1)=((k+1:Nat):Int):=zb3 (by have:=HN6.o;omega);obtain⟨n,hn⟩:∃n,ns[k]?=some n:=⟨ns[k],gG_ hkl⟩
     obtain⟨g,hg⟩:∃g,oo=some ⟨g,0,none⟩:=by
      obtain⟨g,c,e,_⟩:=HNL.o.1.form oM
      injection e with e1
      exact⟨g,e1⟩
     subst hg;have c0:=HNL.o.1.cells (g:=g) rfl _ _ (zg3 hn).1;have c5:=HNL.o.1.cells (g:=g) rfl _ _ (zg3 hn).2.2.2.2.2;rw[zb7,Nat.zero_add]at c0 c5;have hgl:=(HNL.o.1.lt g rfl).2;have HDD:=yt3 hn;by_cases hd:24<n.depth
     ·have HPE:Hi (BY P=(31,n.pos,[])):=yi7 HPA.o HBC.o H3.o (by rw[HD.o,HDD,if_pos hd])
      clear hn HDD;go_wp2_with fail;go_quiet (fail);go_wp2_with fail;(try simp only[Exit.inBlock,Exit.then]);refine bodyPost_ret (results_tmp3 rfl _ _ _) rfl ?_;refine⟨?_,HOK.o.draws _⟩;unfold we8;rw[HLX.o];exact⟨P,sZ,HPT.o.1,by rw[zc2];exact HPT.o.2,(by rw[HPE.o]<;>rfl),by rw[HPE.o];exact World.ownsRow_nil _ _ _ _,by rw[HPE.o];intro n hn;cases hn⟩
     have HD2:Hi (dpF ns=dpF (ns.drop (k+1))):=by unfold Hi;rw[HD.o,HDD,if_neg hd]
     clear hn HDD;go_wp2_with fail;go_roundw
     case rel=>exact⟨trivial,k+1,hkl,rfl,HD2⟩
     case measure=>exact we3 hkl
    have hkl':¬(k:Int)<(ns.length:Int):=zb2 hkl;have HPE:Hi (BY P=(0,0,ns)):=yC0 HPA.o HBC.o H3.o (by rw[HD.o,List.drop_eq_nil_of_le (by omega)];rfl);go_wp2_with fail;(try simp only[Exit.inBlock,Exit.then]);refine bodyPost_ret (results_tmp3 rfl _ _ _) rfl ?_;refine⟨?_,HOK.o⟩;unfold we8;rw[HLX.o];exact⟨P,_,HPT.o.1,by rw[zc2];exact HPT.o.2,(by rw[HPE.o]<;>rfl),by rw[HPE.o];exact HNL.o.1,by rw[HPE.o];exact HNL.o.2⟩
   have hdb:decide (badc<0)=false:=dF_ hb;have hbn:(0:Int)<=badc:=oM;have hbn2:decide ((0:Int)<=badc)=true:=dT_ hbn;have HPE:Hi (BY P=(30,badc,[])):=yt4 (SlS.fin HX.o.2.2.2.2.1.sem (.inl hb)) hb;go_wp2_with fail;go_quiet (fail);go_wp2_with fail;(try simp only[Exit.inBlock,Exit.then]);refine bodyPost_ret (results_tmp3 rfl _ _ _) rfl ?_;refine⟨?_,(HKW.o.fr HX.o.2.2.2.1 HRB.o).draws _⟩;unfold we8;rw[HLX.o];exact⟨P,sZ,HPT.o.1,by rw[zc2];exact HPT.o.2,(by rw[HPE.o]<;>rfl),by rw[HPE.o];exact World.ownsRow_nil _ _ _ _,by rw[HPE.o];intro n hn;cases hn⟩
end
end Go.Proofs.YtpongdpnbclchaaGreatDoor
