import Derived.Test.YtpongdpnbclchaaGreatDoorKLy
set_option maxHeartbeats 8000000
set_option linter.all false
set_option maxRecDepth 100000
namespace Go.Proofs.YtpongdpnbclchaaGreatDoor
variable{P:RP}{a:Nat}{l:List UInt8}
section
open Go.RowKit
theorem yi1{ns:List Nd}{v:Value}(h:∀x∈ns,x.Fit):∀x∈held [(v,ns)],x.Fit:=by intro x hx;rw[FF,List.mem_map]at hx;obtain⟨y,hy,rfl⟩:=hx;exact zf0 (h y hy)
theorem yi2{ns ms:List Nd}{v u:Value}(h:∀x∈ns,x.Fit)(h':∀x∈ms,x.Fit):∀x∈held [(v,ns),(u,ms)],x.Fit:=by
 intro x hx;rw[wb3,List.mem_append,List.mem_map,List.mem_map]at hx;rcases hx with ⟨y,hy,rfl⟩ | ⟨y,hy,rfl⟩
 ·exact zf0 (h y hy)
 exact zf0 (h' y hy)
theorem zM5(P:RP)(rb:Nat)(w:World)(a:Nat)(bad:Int)(hG:GT P)(h:RI P rb w a bad)(hi2:isS P a bad [105,110,112,117,116]=false)(hi3:isS P a bad [97,115,115,101,114,116]=false)(hi4:isS P a bad [115,107,105,112]=false)(hi5:isS P a bad [119,104,105,108,101]=false)(hi6:isS P a bad [105,102]=false)(hn:CK P a bad=true)(hi8:isS P (a+1) bad [91]=false):Calls Tryz.prog 41 #[pA rb 0] w (EPs (StS P a bad) P rb w a bad):=by
 have H:=hid h;have HG:=hid hG;have HI_2:Hi _:=hi2;have HI_3:Hi _:=hi3;have HI_4:Hi _:=hi4;have HI_5:Hi _:=hi5;have HI_6:Hi _:=hi6;clear hi2 hi3 hi4 hi5 hi6;have HN:=hid hn;have HB0:=hid ((zo9 hn).1);have HI_8:Hi _:=hi8;clear h hG hn hi8;go_enter Tryz.func41,Tryz.ntmps41
 go_wp2_with (first
  |(go_at_call 69;refine plC H.o λw1 HR1 HK1=>?_)
  |(go_at_call_of 39 ((⟨#[105,110,112,117,116]⟩:ByteArray));refine isC HR1.o HK1.o HI_2.o λw2 HR2 HK2=>?_)
  |(go_at_call_of 39 ((⟨#[97,115,115,101,114,116]⟩:ByteArray));refine isC HR2.o HK2.o HI_3.o λw3 HR3 HK3=>?_)
  |(go_at_call_of 39 ((⟨#[115,107,105,112]⟩:ByteArray));refine isC HR3.o HK3.o HI_4.o λw4 HR4 HK4=>?_)
  |(go_at_call_of 39 ((⟨#[119,104,105,108,101]⟩:ByteArray));refine isC HR4.o HK4.o HI_5.o λw5 HR5 HK5=>?_)
  |(go_at_call_of 39 ((⟨#[105,102]⟩:ByteArray));refine isC HR5.o HK5.o HI_6.o λw6 HR6 HK6=>?_)
  |(go_at_call 70;refine(zi5 P rb _ a bad HR6.o).mono ?_;rintro e w10 ⟨s,rfl,hs,hr6,hf6⟩;have HSZ:=hid (zf1 HG.o hs);have HNA:Hi (s=naT P a bad):=zq8 hs;rw[HN.o]at hr6;simp only[if_true]at hr6;have HT1:Hi (RI P rb w10 (a+1) bad/\Fr rb w w10):=⟨hr6,(Fr.of HK6.o).trans hf6⟩;clear hs hr6 hf6)
  |(go_at_call_of 39 ((⟨#[91]⟩:ByteArray));refine mq (zb1 P rb _ (a+1) bad _ HT1.o.1) λw11 hok=>?_;rw[show isS P (a+1) bad (⟨#[91]⟩:ByteArray).toList=false by(rw[ByteArray.toList_eq];exact HI_8.o)];have HT2:Hi (RI P rb w11 (a+1) bad/\Fr rb w w11/\Acc P a 0 (a+1) bad 0):=⟨HT1.o.1.ok hok,HT1.o.2.trans (Fr.of hok),Acc.start P a bad⟩;clear hok)
  |(go_at_call_of 71 ((⟨#[58,61]⟩:ByteArray));refine mq (zc5 P rb _ (a+1) bad _ HT2.o.1) λw12 ⟨hr,hf⟩=>?_;obtain⟨a3,ha1⟩:=qq ((if isS P (a+1) bad (⟨#[58,61]⟩:ByteArray).toList then (a+1)+1 else (a+1)));obtain⟨b3,hb1⟩:=qq ((if isS P (a+1) bad (⟨#[58,61]⟩:ByteArray).toList then bad else AI P (a+1) bad));rw[<-ha1,<-hb1]at hr;have HT3:Hi (RI P rb w12 a3 b3/\Fr rb w w12/\Acc P a (0) a3 b3 0):=⟨hr,HT2.o.2.1.trans hf,(by rw[ha1,hb1];exact HT2.o.2.2.take _)⟩;have HA3:Hi (a3=tkA P (a+1) bad [58,61]/\b3=tkB P (a+1) bad [58,61]):=⟨by rw[ha1,ByteArray.toList_eq];rfl,by rw[hb1,ByteArray.toList_eq];rfl⟩;clear hr hf ha1 hb1)
  |(go_at_call 74;refine(zk5 P rb HG.o _ a3 b3 0 (by decide) HT3.o.1).mono ?_;rintro e w13 ⟨vv,ms,a4,b4,rfl,hnl,hri,hfr,hgot,h0⟩;have HE4:=hid hgot.sem.all;obtain⟨mso,msq,rfl⟩:=za0 hnl;have HQ:Hi (NL w13 w.heap.size (.slice mso ms.length msq) ms/\(∀x∈ms,x.Fit)/\ms.length<=65544):=⟨za7 hnl (by have:=HT3.o.2.1.le;simpa using this),hgot.fit,hgot.len' HG.o hri.le⟩;have HT4:Hi (RI P rb w13 a4 b4/\Fr rb w w13/\Acc P a (0+ms.length) a4 b4 0):=⟨hri,Fr.trans HT3.o.2.1 hfr,Acc.expr HT3.o.2.2 hgot h0⟩;clear hnl hri hfr hgot h0)
  |(go_at_call_of 71 ((⟨#[59]⟩:ByteArray));refine mq (zc5 P rb _ a4 b4 _ HT4.o.1) λw14 ⟨hr,hf⟩=>?_;obtain⟨a5,ha1⟩:=qq ((if isS P a4 b4 (⟨#[59]⟩:ByteArray).toList then a4+1 else a4));obtain⟨b5,hb1⟩:=qq ((if isS P a4 b4 (⟨#[59]⟩:ByteArray).toList then b4 else AI P a4 b4));rw[<-ha1,<-hb1]at hr;have HT5:Hi (RI P rb w14 a5 b5/\Fr rb w w14/\Acc P a (0+ms.length) a5 b5 0):=⟨hr,HT4.o.2.1.trans hf,(by rw[ha1,hb1];exact HT4.o.2.2.take _)⟩;have HNC:=hid (NL.up HQ.o.1 hf H.o.lt);have HA5:Hi (a5=tkA P a4 b4 [59]/\b5=tkB P a4 b4 [59]):=⟨by rw[ha1,ByteArray.toList_eq];rfl,by rw[hb1,ByteArray.toList_eq];rfl⟩;clear hr hf ha1 hb1)
  |(go_at_call 72;refine(zc3 _ ⟨0,2,s,0,0,(plS P a:Nat)⟩ _ [(.slice mso ms.length msq,ms)] (HD.one (za3 _ _) (za1 HNC.o.base ((Ok.refl w14).alloc _))) (by have:=HQ.o.2.2;rw[FF,List.length_map];omega) (by simp)).mono ?_;rintro e w21 ⟨v4,rfl,hn4,hok⟩;have HF:Hi (EPs (StS P a bad) P rb w a bad (.returned v4) w21):=zg4 HT5.o.2.1 HT5.o.1 HB0.o HT5.o.2.2 (by decide) ⟨HSZ.o,by simp,by simp,by simp⟩ (by rw[FF,List.length_map,Nat.zero_add]) (yi1 HQ.o.2.1) hn4 (by have:=HT5.o.2.1.le;simp;omega) (((Ok.refl w14).alloc _).step hok) (StS.assign ⟨HI_2.o,HI_3.o,HI_4.o,HI_5.o,HI_6.o⟩ HN.o HI_8.o HNA.o HA3.o HE4.o HA5.o);clear hn4 hok)
  | fail)
 go_ret;exact HF.o
theorem zW6(P:RP)(rb:Nat)(w:World)(a:Nat)(bad:Int)(hG:GT P)(h:RI P rb w a bad)(hi2:isS P a bad [105,110,112,117,116]=false)(hi3:isS P a bad [97,115,115,101,114,116]=false)(hi4:isS P a bad [115,107,105,112]=false)(hi5:isS P a bad [119,104,105,108,101]=false)(hi6:isS P a bad [105,102]=false)(hn:CK P a bad=true)(hi8:isS P (a+1) bad [91]=true):Calls Tryz.prog 41 #[pA rb 0] w (EPs (StS P a bad) P rb w a bad):=by
 have H:=hid h;have HG:=hid hG;have HI_2:Hi _:=hi2;have HI_3:Hi _:=hi3;have HI_4:Hi _:=hi4;have HI_5:Hi _:=hi5;have HI_6:Hi _:=hi6;clear hi2 hi3 hi4 hi5 hi6;have HN:=hid hn;have HB0:=hid ((zo9 hn).1);have HI_8:Hi _:=hi8;have hal2:a+2<=P.ts.length:=(zb9 hi8).2;have hw2:IntKind.i64.wrap ((a:Int)+1+1)=((a+2:Nat):Int):=zd3 oM (by have:=h.lim;omega);clear h hG hn hi8;go_enter Tryz.func41,Tryz.ntmps41
 go_wp2_with (first
  |(go_at_call 69;refine plC H.o λw1 HR1 HK1=>?_)
  |(go_at_call_of 39 ((⟨#[105,110,112,117,116]⟩:ByteArray));refine isC HR1.o HK1.o HI_2.o λw2 HR2 HK2=>?_)
  |(go_at_call_of 39 ((⟨#[97,115,115,101,114,116]⟩:ByteArray));refine isC HR2.o HK2.o HI_3.o λw3 HR3 HK3=>?_)
  |(go_at_call_of 39 ((⟨#[115,107,105,112]⟩:ByteArray));refine isC HR3.o HK3.o HI_4.o λw4 HR4 HK4=>?_)
  |(go_at_call_of 39 ((⟨#[119,104,105,108,101]⟩:ByteArray));refine isC HR4.o HK4.o HI_5.o λw5 HR5 HK5=>?_)
  |(go_at_call_of 39 ((⟨#[105,102]⟩:ByteArray));refine isC HR5.o HK5.o HI_6.o λw6 HR6 HK6=>?_)
  |(go_at_call 70;refine(zi5 P rb _ a bad HR6.o).mono ?_;rintro e w10 ⟨s,rfl,hs,hr6,hf6⟩;have HSZ:=hid (zf1 HG.o hs);have HNA:Hi (s=naT P a bad):=zq8 hs;rw[HN.o]at hr6;simp only[if_true]at hr6;have HT1:Hi (RI P rb w10 (a+1) bad/\Fr rb w w10):=⟨hr6,(Fr.of HK6.o).trans hf6⟩;clear hs hr6 hf6)
  |(go_at_call_of 39 ((⟨#[91]⟩:ByteArray));refine mq (zb1 P rb _ (a+1) bad _ HT1.o.1) λw11 hok=>?_;rw[show isS P (a+1) bad (⟨#[91]⟩:ByteArray).toList=true by(rw[ByteArray.toList_eq];exact HI_8.o)];have HT2:Hi (RI P rb w11 (a+1) bad/\Fr rb w w11/\Acc P a 0 (a+1) bad 0):=⟨HT1.o.1.ok hok,HT1.o.2.trans (Fr.of hok),Acc.start P a bad⟩;obtain⟨f0,f1,f2,f3,z0,z1,z2,z3⟩:=za6 HT2.o.1.row;have hlt:=HT2.o.1.lt;clear hok)
  | fail)
 refine(zk5 P rb HG.o _ (a+2) bad 0 (by decide) (HT2.o.1.setAt (a+2) hal2)).mono ?_;rintro e w13 ⟨vv,ms,a4,b4,rfl,hnl,hri,hfr,hgot,h0⟩;have HE4:=hid hgot.sem.all;obtain⟨mso,msq,rfl⟩:=za0 hnl;have HQ:Hi (NL w13 w.heap.size (.slice mso ms.length msq) ms/\(∀x∈ms,x.Fit)/\ms.length<=65544):=⟨za7 hnl (by have:=HT2.o.2.1.le;simpa using this),hgot.fit,hgot.len' HG.o hri.le⟩;have HT4:Hi (RI P rb w13 a4 b4/\Fr rb w w13/\Acc P a (0+ms.length) a4 b4 0):=⟨hri,Fr.trans (HT2.o.2.1.set 1 _) hfr,Acc.expr HT2.o.2.2.on hgot h0⟩;clear hnl hri hfr hgot h0 f0 f1 f2 f3 z0 z1 z2 z3 hlt
 go_wp2_with (first
  |(go_at_call_of 71 ((⟨#[93]⟩:ByteArray));refine mq (zc5 P rb _ a4 b4 _ HT4.o.1) λw14 ⟨hr,hf⟩=>?_;obtain⟨a5,ha1⟩:=qq ((if isS P a4 b4 (⟨#[93]⟩:ByteArray).toList then a4+1 else a4));obtain⟨b5,hb1⟩:=qq ((if isS P a4 b4 (⟨#[93]⟩:ByteArray).toList then b4 else AI P a4 b4));rw[<-ha1,<-hb1]at hr;have HT5:Hi (RI P rb w14 a5 b5/\Fr rb w w14/\Acc P a (0+ms.length) a5 b5 0):=⟨hr,HT4.o.2.1.trans hf,(by rw[ha1,hb1];exact HT4.o.2.2.take _)⟩;have HN1:=hid (NL.up HQ.o.1 hf H.o.lt);have HA5:Hi (a5=tkA P a4 b4 [93]/\b5=tkB P a4 b4 [93]):=⟨by rw[ha1,ByteArray.toList_eq];rfl,by rw[hb1,ByteArray.toList_eq];rfl⟩;clear hr hf ha1 hb1)
  |(go_at_call_of 71 ((⟨#[58,61]⟩:ByteArray));refine mq (zc5 P rb _ a5 b5 _ HT5.o.1) λw15 ⟨hr,hf⟩=>?_;obtain⟨a6,ha1⟩:=qq ((if isS P a5 b5 (⟨#[58,61]⟩:ByteArray).toList then a5+1 else a5));obtain⟨b6,hb1⟩:=qq ((if isS P a5 b5 (⟨#[58,61]⟩:ByteArray).toList then b5 else AI P a5 b5));rw[<-ha1,<-hb1]at hr;have HT6:Hi (RI P rb w15 a6 b6/\Fr rb w w15/\Acc P a (0+ms.length) a6 b6 0):=⟨hr,HT5.o.2.1.trans hf,(by rw[ha1,hb1];exact HT5.o.2.2.take _)⟩;have HN2:=hid (NL.up HN1.o hf H.o.lt);have HA6:Hi (a6=tkA P a5 b5 [58,61]/\b6=tkB P a5 b5 [58,61]):=⟨by rw[ha1,ByteArray.toList_eq];rfl,by rw[hb1,ByteArray.toList_eq];rfl⟩;clear hr hf ha1 hb1)
  | fail)
 refine(zk5 P rb HG.o _ a6 b6 0 (by decide) HT6.o.1).mono ?_;rintro e w16 ⟨vv,ks,a7,b7,rfl,hnl,hri,hfr,hgot,h0⟩;have HE7:=hid hgot.sem.all;obtain⟨kso,ksq,rfl⟩:=za0 hnl;have HS:Hi (NL w16 w.heap.size (.slice kso ks.length ksq) ks/\(∀x∈ks,x.Fit)/\ks.length<=65544):=⟨za7 hnl (by have:=HT6.o.2.1.le;simpa using this),hgot.fit,hgot.len' HG.o hri.le⟩;have HT7:Hi (RI P rb w16 a7 b7/\Fr rb w w16/\Acc P a (0+ms.length+ks.length) a7 b7 0):=⟨hri,Fr.trans HT6.o.2.1 hfr,Acc.expr HT6.o.2.2 hgot h0⟩;have HN3:=hid (NL.up HN2.o hfr H.o.lt);clear hnl hri hfr hgot h0
 go_wp2_with (first
  |(go_at_call_of 71 ((⟨#[59]⟩:ByteArray));refine mq (zc5 P rb _ a7 b7 _ HT7.o.1) λw17 ⟨hr,hf⟩=>?_;obtain⟨a8,ha1⟩:=qq ((if isS P a7 b7 (⟨#[59]⟩:ByteArray).toList then a7+1 else a7));obtain⟨b8,hb1⟩:=qq ((if isS P a7 b7 (⟨#[59]⟩:ByteArray).toList then b7 else AI P a7 b7));rw[<-ha1,<-hb1]at hr;have HT8:Hi (RI P rb w17 a8 b8/\Fr rb w w17/\Acc P a (0+ms.length+ks.length) a8 b8 0):=⟨hr,HT7.o.2.1.trans hf,(by rw[ha1,hb1];exact HT7.o.2.2.take _)⟩;have HN4:=hid (NL.up HN3.o hf H.o.lt);have HN5:=hid (NL.up HS.o.1 hf H.o.lt);have HA8:Hi (a8=tkA P a7 b7 [59]/\b8=tkB P a7 b7 [59]):=⟨by rw[ha1,ByteArray.toList_eq];rfl,by rw[hb1,ByteArray.toList_eq];rfl⟩;clear hr hf ha1 hb1)
  |(go_at_call 72;refine(zc3 _ ⟨0,3,s,0,0,(plS P a:Nat)⟩ _ [(.slice mso ms.length msq,ms),(.slice kso ks.length ksq,ks)] (zG9 (za3 _ _) (za1 HN4.o.base ((Ok.refl w17).alloc _)) (za1 HN5.o.base ((Ok.refl w17).alloc _))) (by have:=HQ.o.2.2;have:=HS.o.2.2;rw[wb3,List.length_append,List.length_map,List.length_map];omega) (by simp)).mono ?_;rintro e w21 ⟨v4,rfl,hn4,hok⟩;have HF:Hi (EPs (StS P a bad) P rb w a bad (.returned v4) w21):=zg4 HT8.o.2.1 HT8.o.1 HB0.o HT8.o.2.2 (by decide) ⟨HSZ.o,by simp,by simp,by simp⟩ (by rw[wb3,List.length_append,List.length_map,List.length_map,Nat.zero_add]) (yi2 HQ.o.2.1 HS.o.2.1) hn4 (by have:=HT8.o.2.1.le;simp;omega) (((Ok.refl w17).alloc _).step hok) (StS.store ⟨HI_2.o,HI_3.o,HI_4.o,HI_5.o,HI_6.o⟩ HN.o HI_8.o HNA.o HE4.o HA5.o HA6.o HE7.o HA8.o);clear hn4 hok)
  | fail)
 go_ret;exact HF.o
theorem yi3(P:RP)(rb m:Nat)(hG:GT P)(hB:∀k,k<m->wd2 P rb k):wk8 P rb m:=by
 intro w a bad h hm
 cases h2:isS P a bad [105,110,112,117,116] with
 | true=>exact zW2 P rb w a bad hG h h2
 | false =>
  cases h3:isS P a bad [97,115,115,101,114,116] with
  | true=>exact zL5 P rb w a bad hG h h2 h3
  | false =>
   cases h4:isS P a bad [115,107,105,112] with
   | true=>exact yg7 P rb w a bad hG h h2 h3 h4
   | false =>
    cases h5:isS P a bad [119,104,105,108,101] with
    | true=>exact zW3 P rb w a bad m hB hm hG h h2 h3 h4 h5
    | false =>
     cases h6:isS P a bad [105,102] with
     | true=>exact yA7 P rb w a bad m hB hm hG h h2 h3 h4 h5 h6
     | false =>
      cases hn:CK P a bad with
      | false=>exact zL6 P rb w a bad hG h h2 h3 h4 h5 h6 hn
      | true =>
       cases h8:isS P (a+1) bad [91] with
       | false=>exact zM5 P rb w a bad hG h h2 h3 h4 h5 h6 hn h8
       | true=>exact zW6 P rb w a bad hG h h2 h3 h4 h5 h6 hn h8
theorem ys9(P:RP)(rb:Nat)(hG:GT P)(m:Nat):wk8 P rb m/\wd2 P rb m:=by
 induction m using Nat.strongRecOn with
 | ind m ih=>exact⟨yi3 P rb m hG λk hk=>(ih k hk).2,zW1 P rb m hG λk hk=>(ih k hk).1⟩
theorem zB7(P:RP)(rb:Nat)(hG:GT P)(w:World)(a:Nat)(bad:Int)(h:RI P rb w a bad) :
  Calls Tryz.prog 41 #[pA rb 0] w (EPs (StS P a bad) P rb w a bad):=(ys9 P rb hG _).1 w a bad h (nR_ _)
end
section
open Go.RowKit
theorem yi4(x:Int):wrap64 x<=9223372036854775807:=by unfold wrap64;omega
theorem yi5:∀(l:List UInt8) (n:Int),n<=9223372036854775807->wh0 n l<=9223372036854775807
 | [],n,h=>h
 | c::r,n,h=>yi5 r _ (yi4 _)
theorem zH6{k:Nat}{t:List UInt8}{n:Int}(h:BB l=.inr (k,t,n)):n<=9223372036854775807:=by
 cases l with
 | nil=>cases h
 | cons c r =>
  simp only[BB]at h
  repeat' split at h
  all_goals (first|(cases h;done) | skip)
  all_goals (cases h)
  all_goals (first | exact yi5 _ _ dC | decide)
theorem zM6:∀(f:Nat) (l:List UInt8) (i:Nat) (ts:List Tk),wb0 f l i=.inr ts->ts.length<=l.length/\∀x∈ts,x.2.1.length<=l.length/\x.2.2.1<=9223372036854775807
 | 0,l,i,ts,h=>by cases h;exact⟨zL_ _,λx hx=>by cases hx⟩
 | f+1,[],i,ts,h=>by cases h;exact⟨zL_ _,λx hx=>by cases hx⟩
 | f+1,c::r,i,ts,h=>by
  by_cases hb:0<EL (c::r)
  ·rw[zA6 (List.cons_ne_nil _ _) hb]at h
   have:=zM6 f _ _ ts h;rw[List.length_drop]at this;exact⟨by omega,λx hx=>⟨by have:=(this.2 x hx).1;omega,(this.2 x hx).2⟩⟩
  cases hp:BB (c::r) with
  | inl e=>rw[zA7 (List.cons_ne_nil _ _) hb hp]at h;cases h
  | inr p =>
   obtain⟨k,t,n⟩:=p;rw[zA8 (List.cons_ne_nil _ _) hb hp]at h
   cases hr:wb0 f ((c::r).drop t.length) (i+t.length) with
   | inl e=>rw[hr]at h;cases h
   | inr rs =>
    rw[hr]at h;have h':(k,t,n,i)::rs=ts:=Sum.inr.inj h;subst h';have h1:=zM6 f _ _ rs hr;have h2:=zG6 hp;rw[List.length_drop]at h1;refine⟨by rw[List.length_cons];omega,λx hx=>?_⟩;rw[List.mem_cons]at hx;rcases hx with rfl | hx
    ·exact⟨h2.2,zH6 hp⟩
    exact⟨by have:=(h1.2 x hx).1;omega,(h1.2 x hx).2⟩
theorem zB8{ts:List Tk}(h:DS l=.inr ts):l.length<=8192/\ts.length<=8192/\∀x∈ts,x.2.1.length<=1000000/\x.2.2.1<=9223372036854775807:=by
 unfold DS at h
 split at h
 ·cases h
 next h8 =>
 have:=zM6 _ _ _ _ h;exact⟨by omega,by omega,λx hx=>⟨by have:=(this.2 x hx).1;omega,(this.2 x hx).2⟩⟩
theorem GT.of(h:DS l=.inr P.ts):GT P:=⟨(zB8 h).2.1,(zB8 h).2.2⟩
end
section
open Go.RowKit
def deF(P:RP)(a:Nat)(bad:Int):List Nd×Nat×Int :=
 let s:=naT P (a+1) bad
 let a1:=naA P (a+1) bad
 let b1:=naB P (a+1) bad
 if isS P a bad [97,114,114,97,121] then
  let a2:=tkA P a1 b1 [91]
  let b2:=tkB P a1 b1 [91]
  let a3:=if CI P a2 b2 then a2+1 else a2
  let b3:=if CI P a2 b2 then b2 else AI P a2 b2
  let a4:=tkA P a3 b3 [93]
  let b4:=tkB P a3 b3 [93]
  (ndS ⟨0,1,s,if CI P a2 b2 then nuS P a2 else 0,0,(plS P a:Nat)⟩ [],tkA P a4 b4 [59],tkB P a4 b4 [59])
 else (ndS ⟨0,0,s,0,0,(plS P a:Nat)⟩ [],tkA P a1 b1 [59],tkB P a1 b1 [59])
def DeS(P:RP)(a:Nat)(bad:Int)(ns:List Nd)(a':Nat)(bad':Int):Prop:=deF P a bad=(ns,a',bad')
theorem DeS.var{a6:Nat}{bad b6:Int}{s:ByteArray}{t:List UInt8}(ht:t=[59])(h:isS P a bad [97,114,114,97,121]=false)(hs:s=naT P (a+1) bad)(h6:a6=naA P (a+1) bad/\b6=naB P (a+1) bad):DeS P a bad (ndS ⟨0,0,s,0,0,(plS P a:Nat)⟩ []) (tkA P a6 b6 t) (tkB P a6 b6 t):=by unfold DeS deF;rw[h,hs,h6.1,h6.2,ht];rfl
theorem DeS.arr{a6 a7 a8 a9 a10:Nat}{bad b6 b7 b8 b9 b10 z:Int}{s:ByteArray}(h:isS P a bad [97,114,114,97,121]=true)(hs:s=naT P (a+1) bad)(h6:a6=naA P (a+1) bad/\b6=naB P (a+1) bad)(h7:a7=tkA P a6 b6 [91]/\b7=tkB P a6 b6 [91])(h8:a8=(if CI P a7 b7 then a7+1 else a7)/\b8=(if CI P a7 b7 then b7 else AI P a7 b7))(hz:z=if CI P a7 b7 then nuS P a7 else 0)(h9:a9=tkA P a8 b8 [93]/\b9=tkB P a8 b8 [93])(h10:a10=tkA P a9 b9 [59]/\b10=tkB P a9 b9 [59]):DeS P a bad (ndS ⟨0,1,s,z,0,(plS P a:Nat)⟩ []) a10 b10:=by obtain⟨rfl,rfl⟩:=h6;obtain⟨rfl,rfl⟩:=h7;obtain⟨rfl,rfl⟩:=h8;obtain⟨rfl,rfl⟩:=h9;obtain⟨rfl,rfl⟩:=h10;subst hs hz;unfold DeS deF;rw[h];rfl
theorem Acc.bad{n ac e:Nat}{badc:Int}(h:Acc P a n ac badc e):Acc P a n ac (AI P ac badc) e:=by
 have h1:=h.le;have h2:=h.len;have:=ze7 P ac badc;refine⟨h1,?_⟩;rw[if_neg (by omega)]
 split at h2<;>omega
theorem yt0{bad:Int}(h:CI P a bad=false)(x:Int):(0:Int)=if CI P a bad then x else 0:=by rw[h];rfl
theorem yE3{bad b8:Int}(h:CI P a bad=false)(h8:b8=AI P a bad):a=(if CI P a bad then a+1 else a)/\b8=(if CI P a bad then bad else AI P a bad):=by rw[h];exact⟨rfl,h8⟩
theorem yB9{bad nm:Int}{k p:Nat}{tx:List UInt8}(hb:bad<0)(hx:P.ts[a]?=some (k,tx,nm,p))(hk:k=1):CI P a bad=true/\nuS P a=nm:=by unfold CI nuS;rw[hx,decide_eq_true hb,hk];exact⟨rfl,rfl⟩
theorem yE4{bad:Int}(h:CI P a bad=true):a+1=(if CI P a bad then a+1 else a)/\bad=(if CI P a bad then bad else AI P a bad):=by rw[h];exact⟨rfl,rfl⟩
theorem ws2{bad nm:Int}(h:CI P a bad=true/\nuS P a=nm):nm=if CI P a bad then nuS P a else 0:=by rw[h.1,h.2];rfl
theorem yt1(P:RP)(rb:Nat)(w:World)(a:Nat)(bad:Int)(hG:GT P)(h:RI P rb w a bad)(hb:bad<0)(ha:a<P.ts.length)(hi2:isS P a bad [97,114,114,97,121]=false):Calls Tryz.prog 40 #[pA rb 0] w (EPs (DeS P a bad) P rb w a bad):=by
 have H:=hid h;have HG:=hid hG;have HI_2:Hi _:=hi2;have HB0:=hid hb;have hlen:(P.ts.length:Nat)<=1000000:=h.lim.1;clear hi2 hb;have haw:IntKind.i64.wrap ((a:Int)+1)=((a+1:Nat):Int):=zb3 (by have:=H.o.lim;omega);clear h hG;go_enter Tryz.func40,Tryz.ntmps40
 go_wp2_with (first
  |(go_at_call 69;refine plC H.o λw1 HR1 HK1=>?_)
  |(go_at_call 39;refine isC HR1.o HK1.o HI_2.o λw2 HR2 HK2=>?_;obtain⟨f0,f1,f2,f3,z0,z1,z2,z3⟩:=za6 HR2.o.row;have hlt:=HR2.o.lt)
  |(go_at_call 70;refine(zi5 P rb _ (a+1) bad (HR2.o.setAt (a+1) ha)).mono ?_;rintro e w10 ⟨s,rfl,hs,hr6,hf6⟩;have HSZ:=hid (zf1 HG.o hs);obtain⟨a6,ha6⟩:=qq ((if CK P (a+1) bad then a+1+1 else a+1));obtain⟨b6,hb6⟩:=qq ((if CK P (a+1) bad then bad else AI P (a+1) bad));rw[<-ha6,<-hb6]at hr6;have HR6:Hi (RI P rb w10 a6 b6/\Fr rb w w10/\Acc P a 0 a6 b6 0):=⟨hr6,((Fr.of HK2.o).set 1 _).trans hf6,(by rw[ha6,hb6];exact(Acc.start P a bad).name)⟩;have HNA:Hi (s=naT P (a+1) bad):=zq8 hs;have HA6:Hi (a6=naA P (a+1) bad/\b6=naB P (a+1) bad):=⟨ha6,hb6⟩;clear hs hr6 hf6 ha6 hb6 f0 f1 f2 f3 z0 z1 z2 z3 hlt)
  |(go_at_call_of 71 ((⟨#[59]⟩:ByteArray));refine mq (zc5 P rb _ a6 b6 _ HR6.o.1) λw11 ⟨hr,hf⟩=>?_;obtain⟨a7,ha1⟩:=qq ((if isS P a6 b6 (⟨#[59]⟩:ByteArray).toList then a6+1 else a6));obtain⟨b7,hb1⟩:=qq ((if isS P a6 b6 (⟨#[59]⟩:ByteArray).toList then b6 else AI P a6 b6));rw[<-ha1,<-hb1]at hr;have HR7:Hi (RI P rb w11 a7 b7/\Fr rb w w11/\Acc P a 0 a7 b7 0):=⟨hr,HR6.o.2.1.trans hf,(by rw[ha1,hb1];exact HR6.o.2.2.take _)⟩;have HA7:Hi (a7=tkA P a6 b6 [59]/\b7=tkB P a6 b6 [59]):=⟨by rw[ha1,ByteArray.toList_eq];rfl,by rw[hb1,ByteArray.toList_eq];rfl⟩;clear hr hf ha1 hb1)
  |(go_at_call 72;refine(zc3 _ ⟨0,0,s,0,0,(plS P a:Nat)⟩ _ [] (HD.none _) (by simp[held]) (by simp)).mono ?_;rintro e w21 ⟨v4,rfl,hn4,hok⟩;have HF:Hi (EPs (DeS P a bad) P rb w a bad (.returned v4) w21):=zg4 HR7.o.2.1 HR7.o.1 HB0.o HR7.o.2.2 (by decide) ⟨HSZ.o,by simp,by simp,by simp⟩ rfl (λx hx=>by cases hx) hn4 HR7.o.2.1.le hok (by rw[HA7.o.1,HA7.o.2];exact DeS.var rfl HI_2.o HNA.o HA6.o);clear hn4 hok)
  | fail)
 go_ret;exact HF.o
theorem yt2(P:RP)(rb:Nat)(w:World)(a:Nat)(bad:Int)(hG:GT P)(h:RI P rb w a bad)(hb:bad<0)(ha:a<P.ts.length)(hi2:isS P a bad [97,114,114,97,121]=true):Calls Tryz.prog 40 #[pA rb 0] w (EPs (DeS P a bad) P rb w a bad):=by
 have H:=hid h;have HG:=hid hG;have HI_2:Hi _:=hi2;have HB0:=hid hb;have hlen:(P.ts.length:Nat)<=1000000:=h.lim.1;clear hi2 hb;have haw:IntKind.i64.wrap ((a:Int)+1)=((a+1:Nat):Int):=zb3 (by have:=H.o.lim;omega);clear h hG;go_enter Tryz.func40,Tryz.ntmps40
 go_wp2_with (first
  |(go_at_call 69;refine plC H.o λw1 HR1 HK1=>?_)
  |(go_at_call 39;refine isC HR1.o HK1.o HI_2.o λw2 HR2 HK2=>?_;obtain⟨f0,f1,f2,f3,z0,z1,z2,z3⟩:=za6 HR2.o.row;have hlt:=HR2.o.lt)
  |(go_at_call 70;refine(zi5 P rb _ (a+1) bad (HR2.o.setAt (a+1) ha)).mono ?_;rintro e w10 ⟨s,rfl,hs,hr6,hf6⟩;have HSZ:Hi (s.size<=1000000):=zf1 HG.o hs;obtain⟨a6,ha6⟩:=qq ((if CK P (a+1) bad then a+1+1 else a+1));obtain⟨b6,hb6⟩:=qq ((if CK P (a+1) bad then bad else AI P (a+1) bad));rw[<-ha6,<-hb6]at hr6;have HR6:Hi (RI P rb w10 a6 b6/\Fr rb w w10/\Acc P a 0 a6 b6 0):=⟨hr6,((Fr.of HK2.o).set 1 _).trans hf6,(by rw[ha6,hb6];exact(Acc.start P a bad).name)⟩;have HNA:Hi (s=naT P (a+1) bad):=zq8 hs;have HA6:Hi (a6=naA P (a+1) bad/\b6=naB P (a+1) bad):=⟨ha6,hb6⟩;clear hs hr6 hf6 ha6 hb6 f0 f1 f2 f3 z0 z1 z2 z3 hlt)
  |(go_at_call_of 71 ((⟨#[91]⟩:ByteArray));refine mq (zc5 P rb _ a6 b6 _ HR6.o.1) λw11 ⟨hr,hf⟩=>?_;obtain⟨a7,ha1⟩:=qq ((if isS P a6 b6 (⟨#[91]⟩:ByteArray).toList then a6+1 else a6));obtain⟨b7,hb1⟩:=qq ((if isS P a6 b6 (⟨#[91]⟩:ByteArray).toList then b6 else AI P a6 b6));rw[<-ha1,<-hb1]at hr;have HR7:Hi (RI P rb w11 a7 b7/\Fr rb w w11/\Acc P a 0 a7 b7 0):=⟨hr,HR6.o.2.1.trans hf,(by rw[ha1,hb1];exact HR6.o.2.2.take _)⟩;have HA7:Hi (a7=tkA P a6 b6 [91]/\b7=tkB P a6 b6 [91]):=⟨by rw[ha1,ByteArray.toList_eq];rfl,by rw[hb1,ByteArray.toList_eq];rfl⟩;clear hr hf ha1 hb1)
  | fail)
 obtain⟨f0,f1,f2,f3,z0,z1,z2,z3⟩:=za6 HR7.o.1.row;have hlt:=HR7.o.1.lt;by_cases hb7:b7<0;rotate_left;have hb7':decide (b7<0)=false:=dF_ hb7;have HNU:Hi (CI P a7 b7=false):=zB1 (.inl hb7);obtain⟨ao,cap,htv⟩:=za0 HR7.o.1.own;rw[htv]at f0;clear htv;go_quiet (fail);obtain⟨w9,hw9⟩:=qq (w11.drewN nq);rw[<-hw9];have HR9:Hi (RI P rb w9 a7 b7/\Fr rb w w9/\Acc P a 0 a7 b7 0):=by unfold Hi;rw[hw9];exact⟨HR7.o.1.ok ((Ok.refl _).draws _),HR7.o.2.1.trans (Fr.of ((Ok.refl _).draws _)),HR7.o.2.2⟩
 clear hw9 f0 f1 f2 f3 z0 z1 z2 z3 hlt;rotate_left;have hb7':decide (b7<0)=true:=dT_ hb7;have HB7:Hi (b7<0):=hb7;by_cases ha7:a7<P.ts.length;rotate_left;have ha7':¬(a7:Int)<(P.ts.length:Int):=zb2 ha7;have ha72:decide (a7<P.ts.length)=false:=dF_ ha7;have HNU:Hi (CI P a7 b7=false):=zB1 (.inr ha7);obtain⟨ao,cap,htv⟩:=za0 HR7.o.1.own;rw[htv]at f0;clear htv;go_quiet (fail);obtain⟨w9,hw9⟩:=qq (w11.drewN nq);rw[<-hw9];have HR9:Hi (RI P rb w9 a7 b7/\Fr rb w w9/\Acc P a 0 a7 b7 0):=by unfold Hi;rw[hw9];exact⟨HR7.o.1.ok ((Ok.refl _).draws _),HR7.o.2.1.trans (Fr.of ((Ok.refl _).draws _)),HR7.o.2.2⟩
 clear hw9 f0 f1 f2 f3 z0 z1 z2 z3 hlt;rotate_left;rotate_left;have ha7':(a7:Int)<(P.ts.length:Int):=za5 ha7;have ha72:decide (a7<P.ts.length)=true:=dT_ ha7;obtain⟨g,c,y,b,htv,hg,hy,hbt,c0,c1,c2,c3⟩:=HR7.o.1.tok ha7;obtain⟨kd,tx,nm,pl⟩:=y;have HX:Hi (P.ts[a7]?=some (kd,tx,nm,pl)):=hy;have HTV:Hi (P.tv=.slice (sA g 0) P.ts.length c):=htv;simp only at c0 c1 c2 c3;rw[htv]at f0;clear htv hy hbt;by_cases hk:kd=1
 ·subst hk
  have HNY:Hi (CI P a7 b7=true/\nuS P a7=nm):=yB9 hb7 HX.o rfl;have haw7:IntKind.i64.wrap ((a7:Int)+1)=((a7+1:Nat):Int):=zb3 oM;have HNM:Hi (nm<=9223372036854775807):=(HG.o.2 _ (mG_ HX.o)).2;go_quiet (fail);obtain⟨w9,hw9⟩:=qq (w11.drewN nq);rw[<-hw9];have HR9:Hi (RI P rb w9 a7 b7/\Fr rb w w9/\Acc P a 0 a7 b7 0):=by unfold Hi;rw[hw9];exact⟨HR7.o.1.ok ((Ok.refl _).draws _),HR7.o.2.1.trans (Fr.of ((Ok.refl _).draws _)),HR7.o.2.2⟩
  clear hw9 f0 f1 f2 f3 z0 z1 z2 z3 hlt;clear c0 c1 c2 c3 hg;obtain⟨f0,f1,f2,f3,z0,z1,z2,z3⟩:=za6 HR9.o.1.row;have hlt:=HR9.o.1.lt;obtain⟨g',c',y,b',htv,hg,hy,hbt,c0,c1,c2,c3⟩:=HR9.o.1.tok ha7;have e:y=(1,tx,nm,pl):=by have:=HX.o;rw[hy]at this;exact Option.some.inj this
  subst e;simp only at c0 c1 c2 c3;rw[htv]at f0;clear hy hbt htv;go_wp2_with fail;go_quiet (fail);obtain⟨w8,hw8⟩:=qq (w9.drewN nq);rw[<-hw8];have HR8:Hi (RI P rb w8 a7 b7/\Fr rb w w8/\Acc P a 0 a7 b7 0):=by unfold Hi;rw[hw8];exact⟨HR9.o.1.ok ((Ok.refl _).draws _),HR9.o.2.1.trans (Fr.of ((Ok.refl _).draws _)),HR9.o.2.2⟩
  clear hw8 f0 f1 f2 f3 z0 z1 z2 z3 hlt c0 c1 c2 c3 hg;obtain⟨f0,f1,f2,f3,z0,z1,z2,z3⟩:=za6 HR8.o.1.row;have hlt:=HR8.o.1.lt
  go_wp2_with (first
  |(go_at_call_of 71 ((⟨#[93]⟩:ByteArray));refine mq (zc5 P rb _ (a7+1) b7 _ (HR8.o.1.setAt (a7+1) ha7)) λw13 ⟨hr,hf⟩=>?_;obtain⟨a10,ha1⟩:=qq ((if isS P (a7+1) b7 (⟨#[93]⟩:ByteArray).toList then (a7+1)+1 else (a7+1)));obtain⟨b10,hb1⟩:=qq ((if isS P (a7+1) b7 (⟨#[93]⟩:ByteArray).toList then b7 else AI P (a7+1) b7));rw[<-ha1,<-hb1]at hr;have HR10:Hi (RI P rb w13 a10 b10/\Fr rb w w13/\Acc P a 0 a10 b10 0):=⟨hr,(HR8.o.2.1.set 1 _).trans hf,(by rw[ha1,hb1];exact HR8.o.2.2.on.take _)⟩;have HA10:Hi (a10=tkA P (a7+1) b7 [93]/\b10=tkB P (a7+1) b7 [93]):=⟨by rw[ha1,ByteArray.toList_eq];rfl,by rw[hb1,ByteArray.toList_eq];rfl⟩;clear hr hf ha1 hb1 f0 f1 f2 f3 z0 z1 z2 z3 hlt)
  |(go_at_call_of 71 ((⟨#[59]⟩:ByteArray));refine mq (zc5 P rb _ a10 b10 _ HR10.o.1) λw14 ⟨hr,hf⟩=>?_;obtain⟨a11,ha1⟩:=qq ((if isS P a10 b10 (⟨#[59]⟩:ByteArray).toList then a10+1 else a10));obtain⟨b11,hb1⟩:=qq ((if isS P a10 b10 (⟨#[59]⟩:ByteArray).toList then b10 else AI P a10 b10));rw[<-ha1,<-hb1]at hr;have HR11:Hi (RI P rb w14 a11 b11/\Fr rb w w14/\Acc P a 0 a11 b11 0):=⟨hr,HR10.o.2.1.trans hf,(by rw[ha1,hb1];exact HR10.o.2.2.take _)⟩;have HA11:Hi (a11=tkA P a10 b10 [59]/\b11=tkB P a10 b10 [59]):=⟨by rw[ha1,ByteArray.toList_eq];rfl,by rw[hb1,ByteArray.toList_eq];rfl⟩;clear hr hf ha1 hb1)
  |(go_at_call 72;refine(zc3 _ ⟨0,1,s,nm,0,(plS P a:Nat)⟩ _ [] (HD.none _) (by simp[held]) (by simp)).mono ?_;rintro e w21 ⟨v4,rfl,hn4,hok⟩;have HF:Hi (EPs (DeS P a bad) P rb w a bad (.returned v4) w21):=zg4 HR11.o.2.1 HR11.o.1 HB0.o HR11.o.2.2 (by decide) ⟨HSZ.o,by simp,by simp,HNM.o⟩ rfl (λx hx=>by cases hx) hn4 HR11.o.2.1.le hok (DeS.arr HI_2.o HNA.o HA6.o HA7.o (yE4 HNY.o.1) (ws2 HNY.o) HA10.o HA11.o);clear hn4 hok)
  | fail)
  go_ret;exact HF.o
 have hk1:((kd:Int)==1)=false:=by rw[beq_eq_false_iff_ne];intro e;exact hk (show kd=1 by omega)
 have HNU:Hi (CI P a7 b7=false):=zo1 HX.o hk;clear hk;go_quiet (fail);obtain⟨w9,hw9⟩:=qq (w11.drewN nq);rw[<-hw9];have HR9:Hi (RI P rb w9 a7 b7/\Fr rb w w9/\Acc P a 0 a7 b7 0):=by unfold Hi;rw[hw9];exact⟨HR7.o.1.ok ((Ok.refl _).draws _),HR7.o.2.1.trans (Fr.of ((Ok.refl _).draws _)),HR7.o.2.2⟩
 clear hw9 f0 f1 f2 f3 z0 z1 z2 z3 hlt;clear c0 c1 c2 c3 hg
 all_goals
  go_wp2_with (first
  |(go_at_call 73;refine mq (zn1 P rb _ a7 b7 HR9.o.1) λw12 ⟨hr9,hf9⟩=>?_;obtain⟨b8,hb8⟩:=qq (AI P a7 b7);rw[<-hb8]at hr9;have HR8:Hi (RI P rb w12 a7 b8/\Fr rb w w12/\Acc P a 0 a7 b8 0):=⟨hr9,HR9.o.2.1.trans hf9,(by rw[hb8];exact HR9.o.2.2.bad)⟩;have HA8:Hi (b8=AI P a7 b7):=hb8;clear hr9 hf9 hb8)
  |(go_at_call_of 71 ((⟨#[93]⟩:ByteArray));refine mq (zc5 P rb _ a7 b8 _ HR8.o.1) λw13 ⟨hr,hf⟩=>?_;obtain⟨a10,ha1⟩:=qq ((if isS P a7 b8 (⟨#[93]⟩:ByteArray).toList then a7+1 else a7));obtain⟨b10,hb1⟩:=qq ((if isS P a7 b8 (⟨#[93]⟩:ByteArray).toList then b8 else AI P a7 b8));rw[<-ha1,<-hb1]at hr;have HR10:Hi (RI P rb w13 a10 b10/\Fr rb w w13/\Acc P a 0 a10 b10 0):=⟨hr,HR8.o.2.1.trans hf,(by rw[ha1,hb1];exact HR8.o.2.2.take _)⟩;have HA10:Hi (a10=tkA P a7 b8 [93]/\b10=tkB P a7 b8 [93]):=⟨by rw[ha1,ByteArray.toList_eq];rfl,by rw[hb1,ByteArray.toList_eq];rfl⟩;clear hr hf ha1 hb1)
  |(go_at_call_of 71 ((⟨#[59]⟩:ByteArray));refine mq (zc5 P rb _ a10 b10 _ HR10.o.1) λw14 ⟨hr,hf⟩=>?_;obtain⟨a11,ha1⟩:=qq ((if isS P a10 b10 (⟨#[59]⟩:ByteArray).toList then a10+1 else a10));obtain⟨b11,hb1⟩:=qq ((if isS P a10 b10 (⟨#[59]⟩:ByteArray).toList then b10 else AI P a10 b10));rw[<-ha1,<-hb1]at hr;have HR11:Hi (RI P rb w14 a11 b11/\Fr rb w w14/\Acc P a 0 a11 b11 0):=⟨hr,HR10.o.2.1.trans hf,(by rw[ha1,hb1];exact HR10.o.2.2.take _)⟩;have HA11:Hi (a11=tkA P a10 b10 [59]/\b11=tkB P a10 b10 [59]):=⟨by rw[ha1,ByteArray.toList_eq];rfl,by rw[hb1,ByteArray.toList_eq];rfl⟩;clear hr hf ha1 hb1)
  |(go_at_call 72;refine(zc3 _ ⟨0,1,s,0,0,(plS P a:Nat)⟩ _ [] (HD.none _) (by simp[held]) (by simp)).mono ?_;rintro e w21 ⟨v4,rfl,hn4,hok⟩;have HF:Hi (EPs (DeS P a bad) P rb w a bad (.returned v4) w21):=zg4 HR11.o.2.1 HR11.o.1 HB0.o HR11.o.2.2 (by decide) ⟨HSZ.o,by simp,by simp,by simp⟩ rfl (λx hx=>by cases hx) hn4 HR11.o.2.1.le hok (DeS.arr HI_2.o HNA.o HA6.o HA7.o (yE3 HNU.o HA8.o) (yt0 HNU.o _) HA10.o HA11.o);clear hn4 hok)
  | fail)
  go_ret;exact HF.o
theorem zR9(P:RP)(rb:Nat)(hG:GT P)(w:World)(a:Nat)(bad:Int)(h:RI P rb w a bad)(hb:bad<0)(ha:a<P.ts.length):Calls Tryz.prog 40 #[pA rb 0] w (EPs (DeS P a bad) P rb w a bad):=by
 cases hi:isS P a bad [97,114,114,97,121] with
 | true=>exact yt2 P rb w a bad hG h hb ha hi
 | false=>exact yt1 P rb w a bad hG h hb ha hi
end
end Go.Proofs.YtpongdpnbclchaaGreatDoor
