import Derived.Test.YtpongdpnbclchaaGreatDoorKLma
set_option maxHeartbeats 8000000
set_option linter.all false
set_option maxRecDepth 100000
namespace Go.Proofs.YtpongdpnbclchaaGreatDoor
variable{B a a' a1 a2 rb:Nat}{P:RP}{bad bad' bad1 bad2:Int}{u v:Value}{w w' w2 w3 wr:World}
section
open Go.RowKit
structure Nd.Fit(n:Nd):Prop where
 name:n.name.size<=1000000
 lo : -9223372036854775808<=n.depth
 hi:n.depth<=9223372036854775807
 num:n.num<=9223372036854775807
def GT(P:RP):Prop:=P.ts.length<=8192/\∀x∈P.ts,x.2.1.length<=1000000/\x.2.2.1<=9223372036854775807
theorem zf0{n:Nd}(h:n.Fit):(DE n).Fit:=⟨h.name,by simp only[DE];rw[IntKind.wrap_i64];omega,by simp only[DE];rw[IntKind.wrap_i64];omega,h.num⟩
structure Got(S:List Nd->Nat->Int->Prop)(P:RP)(a:Nat)(bad:Int)(ns:List Nd)(a':Nat)(bad':Int):Prop where
 le:a<=a'
 on:bad<0->a<a'\/0<=bad'
 off:0<=bad->ns.length<=1/\a'=a/\bad'=bad
 len:bad<0->ns.length<=8*(a'-a)+(if bad'<0 then 0 else 8)
 fit:∀n∈ns,n.Fit
 sem:S ns a' bad'
def EPx(S:List Nd->Nat->Int->Prop)(P:RP)(rb:Nat)(w:World)(a:Nat)(bad:Int)(e:Ending)(w':World):Prop :=
 ∃v ns a' bad',e=.returned v/\NL w' w.heap.size v ns/\RI P rb w' a' bad'/\Fr rb w w'/\Got S P a bad ns a' bad'/\(0<=bad->ns=[])
def wf9(P:RP)(rb m:Nat):Prop:=∀w a bad,RI P rb w a bad->(P.ts.length-a)*10+3<=m->Calls Tryz.prog 109 #[pA rb 0] w (EPx (ExS P 6 a bad) P rb w a bad)
def wk7(P:RP)(rb m:Nat):Prop:=∀w a bad,RI P rb w a bad->(P.ts.length-a)*10+2<=m->Calls Tryz.prog 137 #[pA rb 0] w (EPx (ExS P 7 a bad) P rb w a bad)
def FH(P:RP)(rb m:Nat):Prop:=∀w a bad (row:Nat),row<=5->RI P rb w a bad->(P.ts.length-a)*10+(9-row)<=m->Calls Tryz.prog 74 #[pA rb 0,nI (row:Nat)] w (EPx (ExS P row a bad) P rb w a bad)
theorem Fr.le(h:Fr rb w w'):w.heap.size<=w'.heap.size:=h.size
theorem NL.fr{ns:List Nd}(h:NL w B v ns)(hf:Fr rb w w')(hne:∀b,v.ownBlock=some b->b≠rb):NL w' B v ns:=zb4 h λb hb=>hf.block b (h.lt b hb).2 (λe=>hne b hb (Option.some.inj e))
theorem Got.len'{S:List Nd->Nat->Int->Prop}{ns:List Nd}(h:Got S P a bad ns a' bad')(hg:GT P)(ha:a'<=P.ts.length):ns.length<=65544:=by
 have:=hg.1;by_cases hb:bad<0
 ·have h1:=h.len hb
  split at h1<;>omega
 have:=(h.off oM).1;omega
theorem Got.to{S S':List Nd->Nat->Int->Prop}{ns:List Nd}(h:Got S P a bad ns a' bad')(hs:S' ns a' bad'):Got S' P a bad ns a' bad':=⟨h.le,h.on,h.off,h.len,h.fit,hs⟩
theorem FF(v:Value)(ns:List Nd):held [(v,ns)]=ns.map DE:=by simp[held]
theorem wb3(v u:Value)(ns ms:List Nd):held [(v,ns),(u,ms)]=ns.map DE++ms.map DE:=by simp[held]
theorem HD.one{g:Nat}{ns:List Nd}(h:w.heap[g]?=some (.cells #[v] 29 (0,0)))(hn:NL w 0 v ns):HD w (.slice (sA g 0) 1 1) [(v,ns)] :=
 ⟨⟨rfl,.inr ⟨g,1,_,rfl,Nat.zero_le _,h,Nat.le_refl _,by decide,rfl,rfl⟩⟩,λp hp=>by rw[List.mem_singleton]at hp;subst hp;exact hn⟩
theorem HD.none(w:World):HD w (sZ) []:=⟨World.ownsRow_nil _ _ _ _,λp hp=>by cases hp⟩
theorem Got.node1{S S':List Nd->Nat->Int->Prop}{ns:List Nd}{n:Nd}(hb:bad<0)(h:Got S P (a+1) bad ns a' bad')(hn:n.Fit)(hs:S' (BK n [(v,ns)]) a' bad'):Got S' P a bad (BK n [(v,ns)]) a' bad':=by
 have h1:=h.le;refine⟨by omega,λ_=>.inl oM,λh0=>by omega,λ_=>?_,?_,hs⟩
 ·have h2:=h.len hb
  unfold BK;rw[FF,List.length_cons,List.length_map]
  split at h2<;>(split<;>omega)
 intro x hx;unfold BK at hx;rw[FF,List.mem_cons,List.mem_map]at hx;rcases hx with rfl | ⟨y,hy,rfl⟩
 ·exact⟨hn.name,by simp,by simp,hn.num⟩
 exact zf0 (h.fit y hy)
theorem NL.base{ns:List Nd}(h:NL w B v ns):NL w 0 v ns:=za7 h (zL_ _)
theorem zG8{S S':List Nd->Nat->Int->Prop}{w4:World}{ns:List Nd}{n:Nd}{v4:Value}{o:Obj}(hk:Ok w w2)(hB:w.heap.size<=B)(hri:RI P rb w3 a' bad')(hfr:Fr rb (w2.setCell (aD rb 1) u) w3)(hb:bad<0)(hgot:Got S P (a+1) bad ns a' bad')(hn4:NL w4 B v4 (BK n [(v,ns)]))(hok:Ok (w3.alloc o) w4)(hn:n.Fit)(hs:S' (BK n [(v,ns)]) a' bad'):EPx S' P rb w a bad (.returned v4) w4 :=
 ⟨v4,_,a',bad',rfl,za7 hn4 hB,hri.ok (((Ok.refl w3).alloc o).step hok),(((Fr.of hk).set 1 u).trans hfr).trans (Fr.of (((Ok.refl w3).alloc o).step hok)),Got.node1 hb hgot hn hs,λh0=>by omega⟩
theorem wf1(k o p:Int):(⟨0,k,⟨#[]⟩,0,o,p⟩:Nd).Fit:=⟨Nat.zero_le _,by simp,by simp,by simp⟩
theorem wq0{S:List Nd->Nat->Int->Prop}{ns:List Nd}(hg:GT P)(h:Got S P a bad ns a' bad')(hri:RI P rb w a' bad'):1+(held [(v,ns)]).length<=1000000:=by have:=h.len' hg hri.le;rw[FF,List.length_map];omega
theorem zV8(P:RP)(rb m:Nat)(hG:GT P)(hU:∀k,k<m->wf9 P rb k)(hA:∀k,k<m->wk7 P rb k):wf9 P rb m:=by
 intro w a bad h hm;have H:=hid h;have HU:=hid hU;have HA:=hid hA;have HG:=hid hG;have HM:=hid hm;clear h hU hA hG hm
 cases h1:isS P a bad [45] with
 | true =>
  have HI:=hid h1;clear h1;have hal:=(zb9 HI.o).2;have haw:IntKind.i64.wrap ((a:Int)+1)=((a+1:Nat):Int):=zb3 (by have:=H.o.lim;omega);go_enter Tryz.func109,Tryz.ntmps109
  go_wp2_with (first
   |(go_at_call 69;refine plC H.o λw1 HR HK=>?_)
   |(go_at_call 39;refine isC HR.o HK.o HI.o λw2 HR2 HK2=>?_;obtain⟨f0,f1,f2,f3,z0,z1,z2,z3⟩:=za6 HR2.o.row;have hlt:=HR2.o.lt)
   |(go_at_call 109;refine(HU.o ((P.ts.length-(a+1))*10+3) (by have:=HM.o;omega) _ (a+1) bad (HR2.o.setAt (a+1) hal) (nR_ _)).mono ?_;rintro e w3 ⟨v,ns,a',bad',rfl,hnl,hri,hfr,hgot,_⟩;obtain⟨ao,cp,rfl⟩:=za0 hnl;have HQ:Hi (NL w3 0 (.slice ao ns.length cp) ns/\RI P rb w3 a' bad'/\Fr rb (w2.setCell (aD rb 1) (nI ((a+1:Nat):Int))) w3/\Got (ExS P 6 (a+1) bad) P (a+1) bad ns a' bad'):=⟨hnl.base,hri,hfr,hgot⟩;clear hnl hri hfr hgot f0 f1 f2 f3 z0 z1 z2 z3 hlt)
   |(go_at_call 72;refine(zc3 _ ⟨0,14,⟨#[]⟩,0,1,(plS P a:Nat)⟩ _ [(.slice ao ns.length cp,ns)] (HD.one (za3 _ _) (za1 HQ.o.1 ((Ok.refl w3).alloc _))) (wq0 HG.o HQ.o.2.2.2 HQ.o.2.1) (by simp)).mono ?_;rintro e w4 ⟨v4,rfl,hn4,hok⟩;have HF:Hi (EPx (ExS P 6 a bad) P rb w a bad (.returned v4) w4):=zG8 HK2.o (by have h1:=HK2.o.le;have h2:=HQ.o.2.2.1.le;simp at h2 ⊢;omega) HQ.o.2.1 HQ.o.2.2.1 (zb9 HI.o).1 HQ.o.2.2.2 hn4 hok (wf1 _ _ _) (ExS.neg HI.o (zb9 HI.o).2 HQ.o.2.2.2.sem);clear hn4 hok)
   | fail)
  go_ret;exact HF.o
 | false =>
  have HI0:=hid h1;clear h1
  cases h2:isS P a bad [33] with
  | true =>
   have HI:=hid h2;clear h2;have hal:=(zb9 HI.o).2;have haw:IntKind.i64.wrap ((a:Int)+1)=((a+1:Nat):Int):=zb3 (by have:=H.o.lim;omega);go_enter Tryz.func109,Tryz.ntmps109
   go_wp2_with (first
    |(go_at_call 69;refine plC H.o λw1 HR HK=>?_)
    |(go_at_call_of 39 ((⟨#[45]⟩:ByteArray));refine isC HR.o HK.o HI0.o λw2 HR2 HK2=>?_)
    |(go_at_call_of 39 ((⟨#[33]⟩:ByteArray));refine isC HR2.o HK2.o HI.o λw5 HR3 HK3=>?_;obtain⟨f0,f1,f2,f3,z0,z1,z2,z3⟩:=za6 HR3.o.row;have hlt:=HR3.o.lt)
    |(go_at_call 109;refine(HU.o ((P.ts.length-(a+1))*10+3) (by have:=HM.o;omega) _ (a+1) bad (HR3.o.setAt (a+1) hal) (nR_ _)).mono ?_;rintro e w3 ⟨v,ns,a',bad',rfl,hnl,hri,hfr,hgot,_⟩;obtain⟨ao,cp,rfl⟩:=za0 hnl;have HQ:Hi (NL w3 0 (.slice ao ns.length cp) ns/\RI P rb w3 a' bad'/\Fr rb (w5.setCell (aD rb 1) (nI ((a+1:Nat):Int))) w3/\Got (ExS P 6 (a+1) bad) P (a+1) bad ns a' bad'):=⟨hnl.base,hri,hfr,hgot⟩;clear hnl hri hfr hgot f0 f1 f2 f3 z0 z1 z2 z3 hlt)
    |(go_at_call 72;refine(zc3 _ ⟨0,14,⟨#[]⟩,0,2,(plS P a:Nat)⟩ _ [(.slice ao ns.length cp,ns)] (HD.one (za3 _ _) (za1 HQ.o.1 ((Ok.refl w3).alloc _))) (wq0 HG.o HQ.o.2.2.2 HQ.o.2.1) (by simp)).mono ?_;rintro e w4 ⟨v4,rfl,hn4,hok⟩;have HF:Hi (EPx (ExS P 6 a bad) P rb w a bad (.returned v4) w4):=zG8 HK3.o (by have h1:=HK3.o.le;have h2:=HQ.o.2.2.1.le;simp at h2 ⊢;omega) HQ.o.2.1 HQ.o.2.2.1 (zb9 HI.o).1 HQ.o.2.2.2 hn4 hok (wf1 _ _ _) (ExS.exc HI0.o HI.o (zb9 HI.o).2 HQ.o.2.2.2.sem);clear hn4 hok)
    | fail)
   go_ret;exact HF.o
  | false =>
   have HI:=hid h2;clear h2;go_enter Tryz.func109,Tryz.ntmps109
   go_wp2_with (first
    |(go_at_call 69;refine plC H.o λw1 HR HK=>?_)
    |(go_at_call_of 39 ((⟨#[45]⟩:ByteArray));refine isC HR.o HK.o HI0.o λw2 HR2 HK2=>?_)
    |(go_at_call_of 39 ((⟨#[33]⟩:ByteArray));refine isC HR2.o HK2.o HI.o λw5 HR3 HK3=>?_)
    |(go_at_call 137;refine(HA.o ((P.ts.length-a)*10+2) (by have:=HM.o;omega) _ a bad HR3.o (nR_ _)).mono ?_;rintro e w3 ⟨v,ns,a',bad',rfl,hnl,hri,hfr,hgot,h0⟩;have HF:Hi (EPx (ExS P 6 a bad) P rb w a bad (.returned v) w3):=⟨v,ns,a',bad',rfl,za7 hnl HK3.o.le,hri,(Fr.of HK3.o).trans hfr,hgot.to (ExS.atom HI0.o HI.o hgot.sem),h0⟩;clear hnl hri hfr hgot h0)
    | fail)
   go_ret;exact HF.o
end
section
open Go.RowKit
def atOf(rb:Nat)(w:World):Nat:=match w.cell? (aD rb 1) with | some v=>(intOf v).toNat | none=>0
theorem RI.atOf(h:RI P rb w a bad):atOf rb w=a:=by unfold Go.Proofs.YtpongdpnbclchaaGreatDoor.atOf;rw[(za6 h.row).2.1];simp[intOf]
theorem zG9{g:Nat}{ns ms:List Nd}(h:w.heap[g]?=some (.cells #[v,u] 29 (0,0)))(hn:NL w 0 v ns)(hm:NL w 0 u ms):HD w (.slice (sA g 0) 2 2) [(v,ns),(u,ms)] :=
 ⟨⟨rfl,.inr ⟨g,2,_,rfl,zL_ _,h,nR_ _,by decide,rfl,rfl⟩⟩,λp hp=>by
  rw[List.mem_cons,List.mem_singleton]at hp;rcases hp with rfl | rfl
  ·exact hn
  exact hm⟩
theorem Got.node2{S S' S'':List Nd->Nat->Int->Prop}{ns:List Nd}{ms:List Nd}{n:Nd}(h:Got S P a bad ns a1 bad1)(hb:bad1<0)(h':Got S' P (a1+1) bad1 ms a2 bad2)(hn:n.Fit)(hs:S'' (BK n [(v,ns),(u,ms)]) a2 bad2):Got S'' P a bad (BK n [(v,ns),(u,ms)]) a2 bad2:=by
 have h1:=h.le;have h2:=h'.le
 have hb0:bad<0:=by
  by_cases hc:bad<0
  ·exact hc
  have:=(h.off oM).2.2;omega
 refine⟨by omega,λ_=>.inl oM,λh0=>by omega,λ_=>?_,?_,hs⟩
 ·have h3:=h.len hb0
  have h4:=h'.len hb;rw[if_pos hb]at h3;unfold BK;rw[wb3,List.length_cons,List.length_append,List.length_map,List.length_map]
  split at h4<;>(split<;>omega)
 intro x hx;unfold BK at hx;rw[wb3,List.mem_cons,List.mem_append,List.mem_map,List.mem_map]at hx;rcases hx with rfl | ⟨y,hy,rfl⟩ | ⟨y,hy,rfl⟩
 ·exact⟨hn.name,by simp,by simp,hn.num⟩
 ·exact zf0 (h.fit y hy)
 exact zf0 (h'.fit y hy)
def XI(S:List Nd->Nat->Int->Prop)(P:RP)(rb:Nat)(w:World)(a:Nat)(bad:Int)(wr:World)(v:Value)(ns:List Nd)(a1:Nat)(bad1:Int):Prop :=
 NL wr w.heap.size v ns/\RI P rb wr a1 bad1/\Fr rb w wr/\Got S P a bad ns a1 bad1/\(0<=bad->ns=[])/\rb<w.heap.size
theorem XI.left{S:List Nd->Nat->Int->Prop}{ns:List Nd}(hx:XI S P rb w a bad wr v ns a1 bad1)(hk:Ok wr w2)(hfr:Fr rb (w2.setCell (aD rb 1) u) w3):NL w3 0 v ns/\w.heap.size<=w3.heap.size:=by have h1:Fr rb wr w3:=((Fr.of hk).set 1 u).trans hfr;refine⟨(NL.fr hx.1 h1 (λb hb=>?_)).base,Nat.le_trans hx.2.2.1.le h1.le⟩;have:=(hx.1.lt b hb).1;have:=hx.2.2.2.2.2;omega
theorem zH0{S S' S'':List Nd->Nat->Int->Prop}{w4:World}{ns ms:List Nd}{n:Nd}{v3 v4:Value}{o:Obj}(hx:XI S P rb w a bad wr v ns a1 bad1)(hk:Ok wr w2)(hb1:bad1<0)(hri:RI P rb w3 a2 bad2)(hfr:Fr rb (w2.setCell (aD rb 1) u) w3)(hgot:Got S' P (a1+1) bad1 ms a2 bad2)(hn4:NL w4 B v4 (BK n [(v,ns),(v3,ms)]))(hB:w.heap.size<=B)(hok:Ok (w3.alloc o) w4)(hn:n.Fit)(hs:S'' (BK n [(v,ns),(v3,ms)]) a2 bad2):XI S'' P rb w a bad w4 v4 (BK n [(v,ns),(v3,ms)]) a2 bad2:=by have h1:Fr rb wr w3:=((Fr.of hk).set 1 u).trans hfr;have h2:Ok w3 w4:=((Ok.refl w3).alloc o).step hok;refine⟨za7 hn4 hB,hri.ok h2,(hx.2.2.1.trans h1).trans (Fr.of h2),Got.node2 hx.2.2.2.1 hb1 hgot hn hs,λh0=>?_,hx.2.2.2.2.2⟩;have:=(hx.2.2.2.1.off h0).2.2;omega
theorem wr9{S S':List Nd->Nat->Int->Prop}{ns ms:List Nd}(hg:GT P)(hx:XI S P rb w a bad wr v ns a1 bad1)(h:Got S' P (a1+1) bad1 ms a2 bad2)(hri:RI P rb w3 a2 bad2):1+(held [(v,ns),(u,ms)]).length<=1000000:=by have h1:=h.len' hg hri.le;have h2:=hx.2.2.2.1.len' hg hx.2.1.le;rw[wb3,List.length_append,List.length_map,List.length_map];omega
theorem XI.fin{S S':List Nd->Nat->Int->Prop}{ns:List Nd}(hx:XI S P rb w a bad wr v ns a1 bad1)(hk:Ok wr w')(hs:S' ns a1 bad1):EPx S' P rb w a bad (.returned v) w' :=
 ⟨v,ns,a1,bad1,rfl,za1 hx.1 hk,hx.2.1.ok hk,hx.2.2.1.trans (Fr.of hk),hx.2.2.2.1.to hs,hx.2.2.2.2.1⟩
theorem yf8{row:Nat}(h:opS P a bad row≠0):bad<0/\a<P.ts.length:=by
 unfold opS at h
 split at h
 ·exact yf7 h
 exact absurd rfl h
theorem yf9(P:RP)(rb m:Nat)(hG:GT P)(hU:∀k,k<m->wf9 P rb k)(hE:∀k,k<m->FH P rb k):FH P rb m:=by
 intro w a bad row hrow h hm;have H:=hid h;have HU:=hid hU;have HE:=hid hE;have HG:=hid hG;have HM:Hi ((P.ts.length-a)*10+(9-row)<=m/\row<=5):=⟨hm,hrow⟩;clear h hU hE hG hm;by_cases h5:row=5
 ·subst h5
  go_enter Tryz.func74,Tryz.ntmps74
  go_wp2_with (first
   |(go_at_call 109;refine(HU.o ((P.ts.length-a)*10+3) (by have:=HM.o;omega) _ a bad H.o (nR_ _)).mono ?_;rintro e w3 ⟨v,ns,a',bad',rfl,hnl,hri,hfr,hgot,h0⟩;have HF:Hi (EPx (ExS P 5 a bad) P rb w a bad (.returned v) w3):=⟨v,ns,a',bad',rfl,hnl,hri,hfr,hgot.to hgot.sem.five,h0⟩;clear hnl hri hfr hgot h0)
   | fail)
  go_ret;exact HF.o
 have h5':((row:Int)==5)=false:=by rw[beq_eq_false_iff_ne];omega
 have hr5:row<5:=oM;have hrw:IntKind.i64.wrap ((row:Int)+1)=((row+1:Nat):Int):=zb3 oM;clear h5;go_enter Tryz.func74,Tryz.ntmps74
 go_wp2_with (first
  |(go_at_call 74;refine(HE.o ((P.ts.length-a)*10+(9-(row+1))) (by have:=HM.o;omega) _ a bad (row+1) hr5 H.o (nR_ _)).mono ?_;rintro e w3 ⟨v,ns,a',bad',rfl,hnl,hri,hfr,hgot,h0⟩;obtain⟨ao,cp,rfl⟩:=za0 hnl;have HX:Hi (XI (LoS P row a bad) P rb w a bad w3 (.slice ao ns.length cp) ns a' bad'):=⟨hnl,hri,hfr,hgot.to (LoS.begin hr5 hgot.sem hgot.le),h0,H.o.lt⟩;clear hnl hri hfr hgot h0)
  | fail)
 go_loopw [5] (λv wr=>∃(ao:Option Addr) (cp:Nat) (ns:List Nd) (a1:Nat) (bad1:Int),v=.slice ao ns.length cp/\Hi (XI (LoS P row a bad) P rb w a bad wr (.slice ao ns.length cp) ns a1 bad1)) (λ_ wr=>P.ts.length-atOf rb wr)
 case atStart=>exact⟨ao,cp,ns,a',bad',rfl,HX⟩
 clear HX;obtain⟨ao,cp,ns,a1,bad1,rfl,HX⟩:=hrel;obtain⟨opn,hopn⟩:=qq (opS P a1 bad1 row);have HO:Hi (opn=opS P a1 bad1 row):=hopn;clear hopn
 cases h0:(opn==0) with
 | true =>
  have he:opn=0:=beq_iff_eq.1 h0;subst he
  go_wp2_with (first
   |(go_at_call 110;refine mq (zm4 P rb _ a1 bad1 row hr5 HX.o.2.1) λw1 hok=>?_;rw[<-HO.o];have HK:=hid hok;clear hok)
   | fail)
  go_ret;exact HX.o.fin HK.o (LoS.fin hr5 HX.o.2.2.2.1.sem HO.o.symm)
 | false =>
  have HY:Hi (bad1<0/\a1<P.ts.length):=yf8 (row:=row) (by rw[<-HO.o];exact beq_eq_false_iff_ne.1 h0);have hal:=HY.o.2;have HZ:=hid h0;have haw:IntKind.i64.wrap ((a1:Int)+1)=((a1+1:Nat):Int):=zb3 (by have:=HX.o.2.1.lim;omega);by_cases h2:row=2
  ·subst h2
   clear hrw h5'
   go_wp2_with (first
    |(go_at_call 110;refine mq (zm4 P rb _ a1 bad1 2 (by decide) HX.o.2.1) λw1 hok=>?_;rw[<-HO.o];have HK:=hid hok;have HR:=hid (HX.o.2.1.ok hok);clear hok)
    |(go_at_call 69;refine mq (zb8 P rb _ a1 bad1 HR.o) λw2 hok=>?_;have HR2:=hid (HR.o.ok hok);have HK2:=hid (HK.o.step hok);obtain⟨f0,f1,f2,f3,z0,z1,z2,z3⟩:=za6 HR2.o.row;have hlt:=HR2.o.lt;clear hok)
    |(go_at_call 74;refine(HE.o ((P.ts.length-(a1+1))*10+(9-3)) (by have:=HM.o;have:=HX.o.2.2.2.1.le;omega) _ (a1+1) bad1 3 dC (HR2.o.setAt (a1+1) hal) (nR_ _)).mono ?_;rintro e w3 ⟨v3,ms,a2,bad2,rfl,hnl,hri,hfr,hgot,_⟩;obtain⟨bo,cq,rfl⟩:=za0 hnl;have HQ:Hi (NL w3 0 (.slice bo ms.length cq) ms/\RI P rb w3 a2 bad2/\Fr rb (w2.setCell (aD rb 1) (nI ((a1+1:Nat):Int))) w3/\Got (ExS P 3 (a1+1) bad1) P (a1+1) bad1 ms a2 bad2):=⟨hnl.base,hri,hfr,hgot⟩;clear hnl hri hfr hgot f0 f1 f2 f3 z0 z1 z2 z3 hlt)
    |(go_at_call 72;refine(zc3 _ ⟨0,15,⟨#[]⟩,0,opn,(plS P a1:Nat)⟩ _ [(.slice ao ns.length cp,ns),(.slice bo ms.length cq,ms)] (zG9 (za3 _ _) (za1 (HX.o.left HK2.o HQ.o.2.2.1).1 ((Ok.refl w3).alloc _)) (za1 HQ.o.1 ((Ok.refl w3).alloc _))) (wr9 HG.o HX.o HQ.o.2.2.2 HQ.o.2.1) (by simp)).mono ?_;rintro e w4 ⟨v4,rfl,hn4,hok⟩;have HF:Hi (XI (ExS P 2 a bad) P rb w a bad w4 v4 (BK ⟨0,15,⟨#[]⟩,0,opn,(plS P a1:Nat)⟩ [(.slice ao ns.length cp,ns),(.slice bo ms.length cq,ms)]) a2 bad2):=zH0 HX.o HK2.o HY.o.1 HQ.o.2.1 HQ.o.2.2.1 HQ.o.2.2.2 hn4 (by have:=(HX.o.left HK2.o HQ.o.2.2.1).2;simp;omega) hok (wf1 _ _ _) (by have h0:=HO.o;rw[h0];exact LoS.two HX.o.2.2.2.1.sem HX.o.2.2.2.1.le (by rw[<-h0];exact beq_eq_false_iff_ne.1 HZ.o) HY.o.2 HQ.o.2.2.2.sem);obtain⟨ao4,cp4,rfl⟩:=za0 hn4;clear hn4 hok)
    | fail)
   go_ret;exact HF.o.fin (Ok.refl _) HF.o.2.2.2.1.sem
  have H2N:=hid h2;have h2':((row:Int)==2)=false:=by rw[beq_eq_false_iff_ne];omega
  go_wp2_with (first
   |(go_at_call 110;refine mq (zm4 P rb _ a1 bad1 row hr5 HX.o.2.1) λw1 hok=>?_;rw[<-HO.o];have HK:=hid hok;have HR:=hid (HX.o.2.1.ok hok);clear hok)
   |(go_at_call 69;refine mq (zb8 P rb _ a1 bad1 HR.o) λw2 hok=>?_;have HR2:=hid (HR.o.ok hok);have HK2:=hid (HK.o.step hok);obtain⟨f0,f1,f2,f3,z0,z1,z2,z3⟩:=za6 HR2.o.row;have hlt:=HR2.o.lt;clear hok)
   |(go_at_call 74;refine(HE.o ((P.ts.length-(a1+1))*10+(9-(row+1))) (by have:=HM.o;have:=HX.o.2.2.2.1.le;omega) _ (a1+1) bad1 (row+1) hr5 (HR2.o.setAt (a1+1) hal) (nR_ _)).mono ?_;rintro e w3 ⟨v3,ms,a2,bad2,rfl,hnl,hri,hfr,hgot,_⟩;obtain⟨bo,cq,rfl⟩:=za0 hnl;have HQ:Hi (NL w3 0 (.slice bo ms.length cq) ms/\RI P rb w3 a2 bad2/\Fr rb (w2.setCell (aD rb 1) (nI ((a1+1:Nat):Int))) w3/\Got (ExS P (row+1) (a1+1) bad1) P (a1+1) bad1 ms a2 bad2):=⟨hnl.base,hri,hfr,hgot⟩;clear hnl hri hfr hgot f0 f1 f2 f3 z0 z1 z2 z3 hlt)
   |(go_at_call 72;refine(zc3 _ ⟨0,15,⟨#[]⟩,0,opn,(plS P a1:Nat)⟩ _ [(.slice ao ns.length cp,ns),(.slice bo ms.length cq,ms)] (zG9 (za3 _ _) (za1 (HX.o.left HK2.o HQ.o.2.2.1).1 ((Ok.refl w3).alloc _)) (za1 HQ.o.1 ((Ok.refl w3).alloc _))) (wr9 HG.o HX.o HQ.o.2.2.2 HQ.o.2.1) (by simp)).mono ?_;rintro e w4 ⟨v4,rfl,hn4,hok⟩;have HF:Hi (XI (LoS P row a bad) P rb w a bad w4 v4 (BK ⟨0,15,⟨#[]⟩,0,opn,(plS P a1:Nat)⟩ [(.slice ao ns.length cp,ns),(.slice bo ms.length cq,ms)]) a2 bad2):=zH0 HX.o HK2.o HY.o.1 HQ.o.2.1 HQ.o.2.2.1 HQ.o.2.2.2 hn4 (by have:=(HX.o.left HK2.o HQ.o.2.2.1).2;simp;omega) hok (wf1 _ _ _) (by have h0:=HO.o;rw[h0];exact LoS.next hr5 H2N.o HX.o.2.2.2.1.sem HX.o.2.2.2.1.le (by rw[<-h0];exact beq_eq_false_iff_ne.1 HZ.o) HY.o.2 HQ.o.2.2.2.sem HQ.o.2.2.2.le);obtain⟨ao4,cp4,rfl⟩:=za0 hn4;clear hn4 hok)
   | fail)
  go_roundw
  case rel=>exact⟨_,_,_,a2,bad2,rfl,HF⟩
  case measure =>
   have e1:=HF.o.2.1.atOf;have e2:=HX.o.2.1.atOf;have:=HQ.o.2.2.2.le;rw[e1,e2];omega
end
end Go.Proofs.YtpongdpnbclchaaGreatDoor
