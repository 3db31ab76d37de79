import Derived.Test.YtpongdpnbclchaaGreatDoorKTe
set_option maxHeartbeats 8000000
set_option linter.all false
set_option maxRecDepth 100000
namespace Go.Proofs.YtpongdpnbclchaaGreatDoor
section
open Go.RowKit
theorem zg7(v:Value)(ns:List Nd)(hT:AM ns)(hl:ns.length<=1000):∀(i:Nat) (w:World),DD w v ns->i<ns.length->(2<=kdA ns i/\kdA ns i<=8) ->
  Calls Tryz.prog 48 #[v,nI (i:Nat)] w λe w'=>e=.returned (nI (BH ns i:Nat))/\Ok w w':=by
 intro i
 induction i using Nat.strongRecOn with
 | ind i ih =>
  intro w h hi hk;have IH:Hi (∀g,g<i->∀W,Ok w W->(2<=kdA ns g/\kdA ns g<=8)->Calls Tryz.prog 48 #[v,nI (g:Nat)] W λe w'=>e=.returned (nI (BH ns g:Nat))/\Ok W w'):=λg hg W hW hkg=>ih g hg W (h.below hW) oM hkg;have HSN:Hi (∀W,Ok w W->DD W v ns):=λW hW=>h.below hW;clear ih;obtain⟨_,ao,cap,rfl,_,_,hN⟩:=h;obtain⟨b,o,rfl,N1⟩:=hN.resolve_left (λe=>by rw[e]at hi;simp at hi);have HN:=hid N1;have HI:Hi (i<ns.length/\ns.length<=1000):=⟨hi,hl⟩;have HST:Hi _:=yC6 hT hi hk;clear N1 hN;obtain⟨r,hr⟩:=qq (BH ns i);rw[<-hr];rw[wl2 hi]at hr;obtain⟨en,hen⟩:=qq (AB ns i);rw[<-hen]at hr;have HEN:Hi (en=AB ns i):=hen;have hi2:(i:Int)<(ns.length:Int):=za5 hi;obtain⟨ni,hni⟩:∃n,ns[i]?=some n:=⟨_,gG_ hi⟩;have HNI:=hid hni;rw[zc4 hni]at hr;clear hen hni hk;by_cases h1:en<ns.length;rotate_left;have h1':¬(en:Int)<(ns.length:Int):=zb2 h1;have h1d:decide ((en:Int)<(ns.length:Int))=false:=dF_ h1';have h1n:decide (en<ns.length)=false:=dF_ h1;rw[if_neg (λh=>h1 h.1)]at hr;rotate_left;have h1':(en:Int)<(ns.length:Int):=za5 h1;have h1d:decide ((en:Int)<(ns.length:Int))=true:=dT_ h1';have h1n:decide (en<ns.length)=true:=dT_ h1;obtain⟨nj,hnj⟩:∃n,ns[en]?=some n:=⟨_,gG_ h1⟩;have HNJ:=hid hnj;rw[zc4 hnj,ze1 hnj]at hr;clear hnj;by_cases h2:nj.depth=ni.depth;rotate_left;have h2d:decide (nj.depth=ni.depth)=false:=dF_ h2;rw[if_neg (λh=>h2 h.2.1)]at hr;rotate_left;rotate_left;have h2d:decide (nj.depth=ni.depth)=true:=dT_ h2;by_cases h3:nj.kind=9;rotate_left
  ·have h3d:decide (nj.kind=9)=false:=dF_ h3
   rw[if_pos ⟨h1,h2,h3⟩]at hr;have HQ:Hi _:=hr;clear hr HST;go_enter Tryz.func48,Tryz.ntmps48
   go_wp2_with (first
    |(go_at_call 85;refine mq (zk9 _ ns i _ (HSN.o _ (Ok.refl _)) HI.o.1 (by have:=HI.o;omega)) λw1 hk1=>?_;have HK1:=hid hk1;rw[<-HEN.o];have M1:=HN.o.below hk1;have lb1:=M1.lt;have c0:=(M1.get HNJ.o).1;have c1:=(M1.get HNJ.o).2.1;have d0:=(M1.get HNI.o).1;clear M1 hk1)
    | fail)
   go_quiet (fail)
   go_wp2_with (first
    |(go_at_call 25;refine mq (zd2 _ ns en _ (HSN.o _ (HK1.o.draws _)) (by have:=HI.o;omega)) λw9 hk9=>?_;have HK9:Hi (Ok w w9):=(HK1.o.draws _).step hk9;clear hk9)
    | fail)
   go_ret;exact⟨by rw[HQ.o];rfl,HK9.o⟩
  rotate_left;rotate_left;have h3d:decide (nj.kind=9)=true:=dT_ h3;rw[if_neg (λh=>h.2.2 h3)]at hr
  all_goals
   have HT:Hi _:=hr;clear hr;rcases HST.o with e0 | ⟨a,g,e0,a1,a2,a3,a4,e5,b1,b2,b3,b4⟩
   ·have HA:=hid e0
    have HQ:Hi (r=ptF ns ns.length):=by unfold Hi;rw[HT.o,e0,if_pos (by omega)]
    clear e0 HT HST;go_enter Tryz.func48,Tryz.ntmps48
    go_wp2_with (first
     |(go_at_call 85;refine mq (zk9 _ ns i _ (HSN.o _ (Ok.refl _)) HI.o.1 (by have:=HI.o;omega)) λw1 hk1=>?_;have HK1:=hid hk1;rw[<-HEN.o];have M1:=HN.o.below hk1;have lb1:=M1.lt;(try (have c0:=(M1.get HNJ.o).1;have c1:=(M1.get HNJ.o).2.1;have d0:=(M1.get HNI.o).1));clear M1 hk1)
     | fail)
    go_quiet (fail)
    go_wp2_with (first
     |(go_at_call_of 86 ((i:Int));refine mq (ze2 _ ns i _ (HSN.o _ (HK1.o.draws _)) HI.o.1 (by have:=HI.o;omega)) λw2 hk2=>?_;have HK2:Hi (Ok w w2):=(HK1.o.draws _).step hk2;rw[HA.o];clear hk2)
     |(go_at_call 25;refine mq (zd2 _ ns ns.length _ (HSN.o _ (HK2.o)) (by have:=HI.o;omega)) λw9 hk9=>?_;have HK9:=hid ((HK2.o).step hk9);clear hk9)
     | fail)
    go_ret;exact⟨by rw[HQ.o];rfl,HK9.o⟩
   have HA:=hid e0;have HG:=hid e5;have hal:a<ns.length:=by have:=HI.o.1;omega
   have hgl:g<ns.length:=oM;have hgl2:(g:Int)<(ns.length:Int):=za5 hgl;have ha0:¬(a:Int)<0:=oM;obtain⟨ng,hng⟩:∃n,ns[g]?=some n:=⟨_,gG_ hgl⟩;have HGN:=hid hng;have HGK:=hid (ze1 hng);have HAG:Hi (a<ns.length/\g<i/\(2<=kdA ns g/\kdA ns g<=8)):=⟨hal,by omega,by omega⟩;have ht:=HT.o;rw[e0,if_neg ha0,Int.toNat_natCast,e5,Int.toNat_natCast,HGK.o]at ht;clear HT HST e0 e5 a1 a2 a3 a4 b1 b2 b3 b4 hng;by_cases h8:ng.kind=8
   ·have h8d:decide (ng.kind=8)=true:=dT_ h8
    have HQ:Hi (r=ptF ns g):=by unfold Hi;rw[ht,if_pos h8]
    clear ht;go_enter Tryz.func48,Tryz.ntmps48
    go_wp2_with (first
     |(go_at_call 85;refine mq (zk9 _ ns i _ (HSN.o _ (Ok.refl _)) HI.o.1 (by have:=HI.o;omega)) λw1 hk1=>?_;have HK1:=hid hk1;rw[<-HEN.o];have M1:=HN.o.below hk1;have lb1:=M1.lt;(try (have c0:=(M1.get HNJ.o).1;have c1:=(M1.get HNJ.o).2.1;have d0:=(M1.get HNI.o).1));clear M1 hk1)
     | fail)
    go_quiet (fail)
    go_wp2_with (first
     |(go_at_call_of 86 ((i:Int));refine mq (ze2 _ ns i _ (HSN.o _ (HK1.o.draws _)) HI.o.1 (by have:=HI.o;omega)) λw2 hk2=>?_;have HK2:Hi (Ok w w2):=(HK1.o.draws _).step hk2;rw[HA.o];clear hk2)
     |(go_at_call_of 86 ((a:Int));refine mq (ze2 _ ns a _ (HSN.o _ HK2.o) HAG.o.1 (by have:=HI.o;omega)) λw3 hk3=>?_;have HK3:=hid (HK2.o.step hk3);rw[HG.o];have M3:=HN.o.below HK3.o;have lb3:=M3.lt;have g1:=(M3.get HGN.o).2.1;clear M3 hk3)
     |(go_at_call 25;refine mq (zd2 _ ns g _ (HSN.o _ (HK3.o)) (by have:=HI.o;omega)) λw9 hk9=>?_;have HK9:=hid ((HK3.o).step hk9);clear hk9)
     | fail)
    go_ret;exact⟨by rw[HQ.o];rfl,HK9.o⟩
   have h8d:decide (ng.kind=8)=false:=dF_ h8;have HQ:Hi (r=BH ns g):=by unfold Hi;rw[ht,if_neg h8]
   clear ht;go_enter Tryz.func48,Tryz.ntmps48
   go_wp2_with (first
    |(go_at_call 85;refine mq (zk9 _ ns i _ (HSN.o _ (Ok.refl _)) HI.o.1 (by have:=HI.o;omega)) λw1 hk1=>?_;have HK1:=hid hk1;rw[<-HEN.o];have M1:=HN.o.below hk1;have lb1:=M1.lt;(try (have c0:=(M1.get HNJ.o).1;have c1:=(M1.get HNJ.o).2.1;have d0:=(M1.get HNI.o).1));clear M1 hk1)
    | fail)
   go_quiet (fail)
   go_wp2_with (first
    |(go_at_call_of 86 ((i:Int));refine mq (ze2 _ ns i _ (HSN.o _ (HK1.o.draws _)) HI.o.1 (by have:=HI.o;omega)) λw2 hk2=>?_;have HK2:Hi (Ok w w2):=(HK1.o.draws _).step hk2;rw[HA.o];clear hk2)
    |(go_at_call_of 86 ((a:Int));refine mq (ze2 _ ns a _ (HSN.o _ HK2.o) HAG.o.1 (by have:=HI.o;omega)) λw3 hk3=>?_;have HK3:=hid (HK2.o.step hk3);rw[HG.o];have M3:=HN.o.below HK3.o;have lb3:=M3.lt;have g1:=(M3.get HGN.o).2.1;clear M3 hk3)
    |(go_at_call 48;refine mq (IH.o g HAG.o.2.1 _ HK3.o HAG.o.2.2) λw9 hk9=>?_;have HK9:=hid (HK3.o.step hk9);clear hk9)
    | fail)
   go_ret;exact⟨by rw[HQ.o];rfl,HK9.o⟩
end
section
open Go.RowKit
theorem yw2{ns:List Nd}(h:AM ns):∀{i:Nat},i<ns.length->AE ns i<=(i:Int)+1
 | 0,hi=>by
  have h0:AE ns 0=1:=by rw[zc4 (List.getElem?_eq_getElem hi)];exact h.shp.first hi
  omega
 | i+1,hi=>by have h1:=yw2 h (show i<ns.length by omega);have h2:=h.step hi;omega
theorem zn5(v:Value)(ns:List Nd)(hT:AM ns)(hl:ns.length<=1000)(i g:Nat)(w:World)(h:DD w v ns)(hi:i<ns.length)(hh:hdF ns i=(g:Int))(hg:g<ns.length)(hk:2<=kdA ns g/\kdA ns g<=8) :
  Calls Tryz.prog 50 #[v,nI (i:Nat)] w λe w'=>e=.returned (nI (BG ns i:Nat))/\Ok w w':=by
 have HSN:Hi (∀W,Ok w W->DD W v ns):=λW hW=>h.below hW;obtain⟨_,ao,cap,rfl,_,_,hN⟩:=h;obtain⟨b,o,rfl,N1⟩:=hN.resolve_left (λe=>by rw[e]at hi;simp at hi);have HN:=hid N1;have M0:=N1;have lb0:=N1.lt;have HI:Hi (i<ns.length/\ns.length<=1000):=⟨hi,hl⟩;have HTR:=hid hT;have HH:=hid hh;have HAG:Hi (g<ns.length/\(2<=kdA ns g/\kdA ns g<=8)):=⟨hg,hk⟩;clear N1 hN;obtain⟨r,hr⟩:=qq (BG ns i);rw[<-hr];unfold BG bgR at hr;rw[hh,Int.toNat_natCast]at hr;have hd1:=yw2 hT hi;have hd2:=hT.dep hi;obtain⟨ni,hni⟩:∃n,ns[i]?=some n:=⟨_,gG_ hi⟩;obtain⟨m,hm⟩:∃m:Nat,AE ns i=(m:Int):=⟨(AE ns i).toNat,by omega⟩;have d0:=(M0.get hni).1;rw[<-zc4 hni,hm]at d0;rw[hm]at hr;have hmw:IntKind.i64.wrap ((m:Int)+1)=((m+1:Nat):Int):=zb3 oM;have hiw:IntKind.i64.wrap ((i:Int)+1)=((i+1:Nat):Int):=zb3 oM;have hi2:(i:Int)<(ns.length:Int):=za5 hi;have hgl2:(g:Int)<(ns.length:Int):=za5 hg;obtain⟨ng,hng⟩:∃n,ns[g]?=some n:=⟨_,gG_ hg⟩;have HGN:=hid hng;rw[ze1 hng]at hr;clear hng hni hd1 hd2 hm hk hh;by_cases h1:i+1<ns.length
 ·have h1':((i+1:Nat):Int)<(ns.length:Int):=za5 h1
  have h1'':(i:Int)+1<(ns.length:Int):=oM;have h1d:decide (((i+1:Nat):Int)<(ns.length:Int))=true:=dT_ h1';have h1n:decide (i+1<ns.length)=true:=dT_ h1;have h1e:decide ((i:Int)+1<(ns.length:Int))=true:=dT_ h1'';obtain⟨nj,hnj⟩:∃n,ns[i+1]?=some n:=⟨_,gG_ h1⟩;have c0:=(M0.get hnj).1;rw[zc4 hnj]at hr;clear hnj M0;by_cases h2:nj.depth=((m+1:Nat):Int)
  ·have h2':nj.depth=(m:Int)+1:=oM
   have h2d:decide (nj.depth=((m+1:Nat):Int))=true:=dT_ h2;have h2e:decide (nj.depth=(m:Int)+1)=true:=dT_ h2';rw[if_pos ⟨h1,h2'⟩]at hr;have HQ:Hi (r=ptF ns (i+1)):=hr;clear hr;go_enter Tryz.func50,Tryz.ntmps50;go_wp2_with fail;go_quiet (fail)
   go_wp2_with (first
    |(go_at_call 25;refine mq (zd2 _ ns (i+1) _ (HSN.o _ ((Ok.refl _).draws _)) (by have:=HI.o;omega)) λw9 hk9=>?_;have HK9:Hi (Ok w w9):=((Ok.refl w).draws _).step hk9;clear hk9)
    | fail)
   go_ret;exact⟨by rw[HQ.o];rfl,HK9.o⟩
  have h2':¬nj.depth=(m:Int)+1:=oM;have h2d:decide (nj.depth=((m+1:Nat):Int))=false:=dF_ h2;have h2e:decide (nj.depth=(m:Int)+1)=false:=dF_ h2';rw[if_neg (λh=>h2' h.2)]at hr;by_cases h8:ng.kind=8
  ·have h8d:decide (ng.kind=8)=true:=dT_ h8
   have HQ:Hi (r=ptF ns g):=by unfold Hi;rw[hr,if_pos h8]
   clear hr;go_enter Tryz.func50,Tryz.ntmps50;go_wp2_with fail;go_quiet (fail)
   go_wp2_with (first
    |(go_at_call 86;refine mq (ze2 _ ns i _ (HSN.o _ ((Ok.refl _).draws _)) HI.o.1 (by have:=HI.o;omega)) λw1 hk1=>?_;have HK1:Hi (Ok w w1):=((Ok.refl w).draws _).step hk1;rw[HH.o];have M3:=HN.o.below HK1.o;have lb3:=M3.lt;have g1:=(M3.get HGN.o).2.1;clear M3 hk1)
    |(go_at_call 25;refine mq (zd2 _ ns g _ (HSN.o _ (HK1.o)) (by have:=HI.o;omega)) λw9 hk9=>?_;have HK9:=hid ((HK1.o).step hk9);clear hk9)
    | fail)
   go_ret;exact⟨by rw[HQ.o];rfl,HK9.o⟩
  have h8d:decide (ng.kind=8)=false:=dF_ h8;have HQ:Hi (r=BH ns g):=by unfold Hi;rw[hr,if_neg h8];rfl
  clear hr;go_enter Tryz.func50,Tryz.ntmps50;go_wp2_with fail;go_quiet (fail)
  go_wp2_with (first
   |(go_at_call 86;refine mq (ze2 _ ns i _ (HSN.o _ ((Ok.refl _).draws _)) HI.o.1 (by have:=HI.o;omega)) λw1 hk1=>?_;have HK1:Hi (Ok w w1):=((Ok.refl w).draws _).step hk1;rw[HH.o];have M3:=HN.o.below HK1.o;have lb3:=M3.lt;have g1:=(M3.get HGN.o).2.1;clear M3 hk1)
   |(go_at_call 48;refine mq (zg7 _ ns HTR.o HI.o.2 g _ (HSN.o _ HK1.o) HAG.o.1 HAG.o.2) λw9 hk9=>?_;have HK9:=hid (HK1.o.step hk9);clear hk9)
   | fail)
  go_ret;exact⟨by rw[HQ.o];rfl,HK9.o⟩
 have h1':¬((i+1:Nat):Int)<(ns.length:Int):=zb2 h1;have h1'':¬(i:Int)+1<(ns.length:Int):=oM;have h1d:decide (((i+1:Nat):Int)<(ns.length:Int))=false:=dF_ h1';have h1n:decide (i+1<ns.length)=false:=dF_ h1;have h1e:decide ((i:Int)+1<(ns.length:Int))=false:=dF_ h1'';rw[if_neg (λh=>h1 h.1)]at hr;clear M0;by_cases h8:ng.kind=8
 ·have h8d:decide (ng.kind=8)=true:=dT_ h8
  have HQ:Hi (r=ptF ns g):=by unfold Hi;rw[hr,if_pos h8]
  clear hr;go_enter Tryz.func50,Tryz.ntmps50;go_wp2_with fail;go_quiet (fail)
  go_wp2_with (first
   |(go_at_call 86;refine mq (ze2 _ ns i _ (HSN.o _ ((Ok.refl _).draws _)) HI.o.1 (by have:=HI.o;omega)) λw1 hk1=>?_;have HK1:Hi (Ok w w1):=((Ok.refl w).draws _).step hk1;rw[HH.o];have M3:=HN.o.below HK1.o;have lb3:=M3.lt;have g1:=(M3.get HGN.o).2.1;clear M3 hk1)
   |(go_at_call 25;refine mq (zd2 _ ns g _ (HSN.o _ (HK1.o)) (by have:=HI.o;omega)) λw9 hk9=>?_;have HK9:=hid ((HK1.o).step hk9);clear hk9)
   | fail)
  go_ret;exact⟨by rw[HQ.o];rfl,HK9.o⟩
 have h8d:decide (ng.kind=8)=false:=dF_ h8;have HQ:Hi (r=BH ns g):=by unfold Hi;rw[hr,if_neg h8];rfl
 clear hr;go_enter Tryz.func50,Tryz.ntmps50;go_wp2_with fail;go_quiet (fail)
 go_wp2_with (first
  |(go_at_call 86;refine mq (ze2 _ ns i _ (HSN.o _ ((Ok.refl _).draws _)) HI.o.1 (by have:=HI.o;omega)) λw1 hk1=>?_;have HK1:Hi (Ok w w1):=((Ok.refl w).draws _).step hk1;rw[HH.o];have M3:=HN.o.below HK1.o;have lb3:=M3.lt;have g1:=(M3.get HGN.o).2.1;clear M3 hk1)
  |(go_at_call 48;refine mq (zg7 _ ns HTR.o HI.o.2 g _ (HSN.o _ HK1.o) HAG.o.1 HAG.o.2) λw9 hk9=>?_;have HK9:=hid (HK1.o.step hk9);clear hk9)
  | fail)
 go_ret;exact⟨by rw[HQ.o];rfl,HK9.o⟩
end
section
open Go.RowKit
theorem SL.many(w:World)(t:TypeId)(xs:List Value){s n:Nat}(hs:xs.length=n*s)(h1:∀u∈xs,u.oneCell'=true):SL (w.alloc (.cells xs.toArray t)) s (.slice (sA w.heap.size 0) n n) n xs:=by refine⟨hs,h1,_,_,rfl,.inr ⟨_,_,rfl,by simp,λj u hj=>?_⟩⟩;have hlt:=(List.getElem?_eq_some_iff.1 hj).1;have h0:(w.alloc (.cells xs.toArray t)).heap[w.heap.size]?=some (.cells xs.toArray t (0,0)):=heap_at _ _ _ sI;rw[Nat.zero_add];exact(cell_of_row _ _ j _ _ _ h0).trans (by simpa using hj)
theorem zI7(v:Value)(ns:List Nd)(hT:AM ns)(hl:ns.length<=1000)(i:Nat)(w:World)(h:DD w v ns)(hi:i<ns.length)(hk:2<=kdA ns i/\kdA ns i<=8)(hc:¬(kdA ns i=7\/kdA ns i=8)) :
  Calls Tryz.prog 27 #[v,nI (i:Nat)] w λe w'=>∃lv,e=.returned lv/\SL w' 6 lv (elR ns i).length (edL (elR ns i))/\Ok w w':=by
 have HSN:Hi (∀W,Ok w W->DD W v ns):=λW hW=>h.below hW;obtain⟨_,ao,cap,rfl,_,_,hN⟩:=h;obtain⟨b,o,rfl,N1⟩:=hN.resolve_left (λe=>by rw[e]at hi;simp at hi);have HN:=hid N1;have HI:Hi (i<ns.length/\ns.length<=1000):=⟨hi,hl⟩;have HTR:=hid hT;have HKD:=hid hk;clear N1 hN;obtain⟨k,hkk⟩:=qq (kdA ns i);obtain⟨q,hq⟩:=qq (ptF ns i);obtain⟨t,ht⟩:=qq (BH ns i);have HQ:Hi (q=ptF ns i/\t=BH ns i):=⟨hq,ht⟩
 have HE:Hi (elR ns i=[⟨(q:Nat),(t:Nat),k-2,(i:Nat),false,false⟩]):=by unfold Hi elR;rw[if_neg hc,hq,ht,hkk]
 rw[HE.o];rw[<-hkk]at hc hk;have h7:¬k=7:=λe=>hc (.inl e);have h8:¬k=8:=λe=>hc (.inr e);have h7d:decide (k=7)=false:=dF_ h7;have h8d:decide (k=8)=false:=dF_ h8;have h7b:(k != 7)=true:=by simpa using h7
 have h8b:(k != 8)=true:=by simpa using h8
 have h78b:(k != 7&&k != 8)=true:=by rw[h7b,h8b];rfl
 have hkw:IntKind.i64.wrap (k-2)=k-2:=by rw[IntKind.wrap_i64];omega
 have hkw2:wrap64 (k-2)=k-2:=by unfold wrap64;omega
 have hi2:(i:Int)<(ns.length:Int):=za5 hi;obtain⟨ni,hni⟩:∃n,ns[i]?=some n:=⟨_,gG_ hi⟩;have HNI:Hi (ns[i]?=some ni/\ni.kind=k):=⟨hni,by rw[hkk,ze1 hni]⟩;clear hni hkk hq ht hc;go_enter Tryz.func27,Tryz.ntmps27
 go_wp2_with (first
  |(go_at_call 25;refine mq (zd2 _ ns i _ (HSN.o _ (Ok.refl _)) (by have:=HI.o;omega)) λw1 hk1=>?_;have HK1:=hid hk1;have M1:=HN.o.below HK1.o;have lb1:=M1.lt;have c1:=(M1.get HNI.o.1).2.1;rw[HNI.o.2]at c1;rw[<-HQ.o.1];clear M1 hk1)
  |(go_at_call 48;refine mq (zg7 _ ns HTR.o HI.o.2 i _ (HSN.o _ HK1.o) HI.o.1 HKD.o) λw2 hk2=>?_;have HK2:=hid (HK1.o.step hk2);rw[<-HQ.o.2];clear hk2)
  | fail)
 go_ret;exact⟨_,rfl,SL.many w2 59 (edL [⟨(q:Nat),(t:Nat),k-2,(i:Nat),false,false⟩]) (by rfl) (by simp[edL,edV,Value.oneCell']),HK2.o.alloc _⟩
theorem zj9{w:World}{B g cap:Nat}{n:Nat}{l:List Nat}(h:w.ownsRow B 3 1 (.slice (sA g 0) n cap) n (inL l))(k x:Nat)(hk:l[k]?=some x):w.cell? (aD g k)=some (nI (x:Nat)):=by have:=h.cells (g:=g) rfl k _ (show(inL l)[k]?=some (nI (x:Nat)) by unfold inL;rw[List.getElem?_map,hk];rfl);rw[zb7,Nat.zero_add]at this;exact this
theorem yl2(v:Value)(ns:List Nd)(hT:AM ns)(hl:ns.length<=1000)(i a:Nat)(w:World)(h:DD w v ns)(hi:i<ns.length)(hkk:kdA ns i=7)(hH:hlF ns i=[i+1,a])(ha:hdF ns a=(i:Int))(hal:a<ns.length) :
  Calls Tryz.prog 27 #[v,nI (i:Nat)] w λe w'=>∃lv,e=.returned lv/\SL w' 6 lv (elR ns i).length (edL (elR ns i))/\Ok w w':=by
 have HSN:Hi (∀W,Ok w W->DD W v ns):=λW hW=>h.below hW;obtain⟨_,ao,cap,rfl,_,_,hN⟩:=h;obtain⟨b,o,rfl,N1⟩:=hN.resolve_left (λe=>by rw[e]at hi;simp at hi);have HN:=hid N1;have HI:Hi (i<ns.length/\ns.length<=1000):=⟨hi,hl⟩;have HTR:=hid hT;have HKD:Hi (2<=kdA ns i/\kdA ns i<=8):=by unfold Hi;omega
 have HHL:=hid hH;clear N1 hN;obtain⟨q,hq⟩:=qq (ptF ns i);obtain⟨t,ht⟩:=qq (BH ns i);obtain⟨t1,ht1⟩:=qq (BG ns a);have HQ:Hi (q=ptF ns i/\t=BH ns i/\t1=BG ns a):=⟨hq,ht,ht1⟩;have HA:Hi (hdF ns a=(i:Int)/\a<ns.length):=⟨ha,hal⟩
 have HE:Hi (elR ns i=[⟨(q:Nat),(t1:Nat),5,((i+1:Nat):Int),true,false⟩,⟨(q:Nat),(t:Nat),5,((i+1:Nat):Int),false,false⟩]):=by unfold Hi elR;rw[if_pos (by omega),hH,hkk,hq,ht1,ht];rfl
 rw[HE.o];have hi2:(i:Int)<(ns.length:Int):=za5 hi;obtain⟨ni,hni⟩:∃n,ns[i]?=some n:=⟨_,gG_ hi⟩;have HNI:Hi (ns[i]?=some ni/\ni.kind=7):=⟨hni,by rw[<-ze1 hni,hkk]⟩;clear hni hkk hq ht ht1 ha hal hH;go_enter Tryz.func27,Tryz.ntmps27
 go_wp2_with (first
  |(go_at_call 25;refine mq (zd2 _ ns i _ (HSN.o _ (Ok.refl _)) (by have:=HI.o;omega)) λw1 hk1=>?_;have HK1:=hid hk1;have M1:=HN.o.below HK1.o;have lb1:=M1.lt;have c1:=(M1.get HNI.o.1).2.1;rw[HNI.o.2]at c1;rw[<-HQ.o.1];clear M1 hk1)
  |(go_at_call 49;refine(zw0 _ ns i _ (HSN.o _ HK1.o) HI.o.1 HI.o.2).mono ?_;rintro e w2 ⟨hv,rfl,ho2,hk2⟩;have HK2:=hid (HK1.o.step hk2);rw[HHL.o]at ho2;obtain⟨hg,hcap,rfl,_⟩:=ho2.form (by simp);have HO2:=hid ho2;clear ho2 hk2)
  |(go_at_call 48;refine mq (zg7 _ ns HTR.o HI.o.2 i _ (HSN.o _ HK2.o) HI.o.1 HKD.o) λw3 hk3=>?_;have HK3:=hid (HK2.o.step hk3);have HO3:=hid (za1 HO2.o hk3);have lg3:=(HO3.o.lt hg rfl).2;rw[<-HQ.o.2.1];clear hk3)
  | fail)
 have l4:=(HO3.o.lt hg rfl).2;have k0:w3.drew.cell? (aD hg 0)=some (nI ((i+1:Nat):Int)):=zj9 HO3.o 0 _ rfl;have k1:w3.drew.cell? (aD hg 1)=some (nI (a:Nat)):=zj9 HO3.o 1 _ rfl;have K01:=And.intro k0 k1
 go_region_held3 (λw'=>w'.cell? (aD hg 0)=some (nI ((i+1:Nat):Int))/\w'.cell? (aD hg 1)=some (nI (a:Nat)))
  (first|(with_reducible exact d01) | (with_reducible exact K01) | go_keep)
  (first
  |(go_at_call 50;refine(Calls.mono (zn5 _ ns HTR.o HI.o.2 a i _ (HSN.o _ (HK3.o.draws _)) HA.o.2 HA.o.1 HI.o.1 HKD.o) ?_);rintro e w5 ⟨rfl,hk5⟩;have HK5:Hi (Ok w w5):=(HK3.o.draws _).step hk5;have HO5:Hi (w5.ownsRow w1.heap.size 3 1 (.slice (sA hg 0) 2 hcap) 2 (inL [i+1,a])):=za1 HO3.o (Ok.step (by repeat (first | exact Ok.refl _ | refine Below.drew ?_)) hk5);have d01:=And.intro (zj9 HO5.o 0 _ rfl) (zj9 HO5.o 1 _ rfl);rw[<-HQ.o.2.2];clear hk5)
  | fail)
 go_wp2_with fail;go_ret;exact⟨_,rfl,SL.many w5 59 (edL [⟨(q:Nat),(t1:Nat),5,((i+1:Nat):Int),true,false⟩,⟨(q:Nat),(t:Nat),5,((i+1:Nat):Int),false,false⟩]) (by rfl) (by simp[edL,edV,Value.oneCell']),HK5.o.alloc _⟩
theorem yl3(v:Value)(ns:List Nd)(hT:AM ns)(hl:ns.length<=1000)(i a s:Nat)(w:World)(h:DD w v ns)(hi:i<ns.length)(hkk:kdA ns i=7)(hH:hlF ns i=[i+1,a,s])(ha:hdF ns a=(i:Int))(hal:a<ns.length)(hs:hdF ns s=(i:Int))(hsl:s<ns.length) :
  Calls Tryz.prog 27 #[v,nI (i:Nat)] w λe w'=>∃lv,e=.returned lv/\SL w' 6 lv (elR ns i).length (edL (elR ns i))/\Ok w w':=by
 have HSN:Hi (∀W,Ok w W->DD W v ns):=λW hW=>h.below hW;obtain⟨_,ao,cap,rfl,_,_,hN⟩:=h;obtain⟨b,o,rfl,N1⟩:=hN.resolve_left (λe=>by rw[e]at hi;simp at hi);have HN:=hid N1;have HI:Hi (i<ns.length/\ns.length<=1000):=⟨hi,hl⟩;have HTR:=hid hT;have HKD:Hi (2<=kdA ns i/\kdA ns i<=8):=by unfold Hi;omega
 have HHL:=hid hH;clear N1 hN;obtain⟨q,hq⟩:=qq (ptF ns i);obtain⟨t,ht⟩:=qq (BH ns i);obtain⟨t1,ht1⟩:=qq (BG ns a);obtain⟨s2,hs2⟩:=qq (BG ns s);have HQ:Hi (q=ptF ns i/\t=BH ns i/\t1=BG ns a):=⟨hq,ht,ht1⟩;have HA:Hi (hdF ns a=(i:Int)/\a<ns.length):=⟨ha,hal⟩;have HS2:Hi (s2=BG ns s/\hdF ns s=(i:Int)/\s<ns.length):=⟨hs2,hs,hsl⟩
 have HE:Hi (elR ns i=[⟨(q:Nat),(t1:Nat),5,((i+1:Nat):Int),true,false⟩,⟨(q:Nat),(s2:Nat),5,((i+1:Nat):Int),false,false⟩]):=by unfold Hi elR;rw[if_pos (by omega),hH,hkk,hq,ht1,hs2];rfl
 rw[HE.o];have hi2:(i:Int)<(ns.length:Int):=za5 hi;obtain⟨ni,hni⟩:∃n,ns[i]?=some n:=⟨_,gG_ hi⟩;have HNI:Hi (ns[i]?=some ni/\ni.kind=7):=⟨hni,by rw[<-ze1 hni,hkk]⟩;clear hni hkk hq ht ht1 ha hal hH hs2 hs hsl;go_enter Tryz.func27,Tryz.ntmps27
 go_wp2_with (first
  |(go_at_call 25;refine mq (zd2 _ ns i _ (HSN.o _ (Ok.refl _)) (by have:=HI.o;omega)) λw1 hk1=>?_;have HK1:=hid hk1;have M1:=HN.o.below HK1.o;have lb1:=M1.lt;have c1:=(M1.get HNI.o.1).2.1;rw[HNI.o.2]at c1;rw[<-HQ.o.1];clear M1 hk1)
  |(go_at_call 49;refine(zw0 _ ns i _ (HSN.o _ HK1.o) HI.o.1 HI.o.2).mono ?_;rintro e w2 ⟨hv,rfl,ho2,hk2⟩;have HK2:=hid (HK1.o.step hk2);rw[HHL.o]at ho2;obtain⟨hg,hcap,rfl,_⟩:=ho2.form (by simp);have HO2:=hid ho2;clear ho2 hk2)
  |(go_at_call 48;refine mq (zg7 _ ns HTR.o HI.o.2 i _ (HSN.o _ HK2.o) HI.o.1 HKD.o) λw3 hk3=>?_;have HK3:=hid (HK2.o.step hk3);have HO3:=hid (za1 HO2.o hk3);have lg3:=(HO3.o.lt hg rfl).2;have d2:=zj9 HO3.o 2 _ rfl;rw[<-HQ.o.2.1];clear hk3)
  |(go_at_call 50;refine mq (zn5 _ ns HTR.o HI.o.2 s i _ (HSN.o _ HK3.o) HS2.o.2.2 HS2.o.2.1 HI.o.1 HKD.o) λw4 hk4=>?_;have HK4:=hid (HK3.o.step hk4);have HO4:=hid (za1 HO3.o hk4);rw[<-HS2.o.1];clear hk4)
  | fail)
 have l4:=(HO4.o.lt hg rfl).2;have k0:w4.drew.cell? (aD hg 0)=some (nI ((i+1:Nat):Int)):=zj9 HO4.o 0 _ rfl;have k1:w4.drew.cell? (aD hg 1)=some (nI (a:Nat)):=zj9 HO4.o 1 _ rfl;have K01:=And.intro k0 k1
 go_region_held3 (λw'=>w'.cell? (aD hg 0)=some (nI ((i+1:Nat):Int))/\w'.cell? (aD hg 1)=some (nI (a:Nat)))
  (first|(with_reducible exact d01) | (with_reducible exact K01) | go_keep)
  (first
  |(go_at_call 50;refine(Calls.mono (zn5 _ ns HTR.o HI.o.2 a i _ (HSN.o _ (HK4.o.draws _)) HA.o.2 HA.o.1 HI.o.1 HKD.o) ?_);rintro e w5 ⟨rfl,hk5⟩;have HK5:Hi (Ok w w5):=(HK4.o.draws _).step hk5;have HO5:Hi (w5.ownsRow w1.heap.size 3 1 (.slice (sA hg 0) 3 hcap) 3 (inL [i+1,a,s])):=za1 HO4.o (Ok.step (by repeat (first | exact Ok.refl _ | refine Below.drew ?_)) hk5);have d01:=And.intro (zj9 HO5.o 0 _ rfl) (zj9 HO5.o 1 _ rfl);rw[<-HQ.o.2.2];clear hk5)
  | fail)
 go_wp2_with fail;go_ret;exact⟨_,rfl,SL.many w5 59 (edL [⟨(q:Nat),(t1:Nat),5,((i+1:Nat):Int),true,false⟩,⟨(q:Nat),(s2:Nat),5,((i+1:Nat):Int),false,false⟩]) (by rfl) (by simp[edL,edV,Value.oneCell']),HK5.o.alloc _⟩
theorem yl4(v:Value)(ns:List Nd)(hT:AM ns)(hl:ns.length<=1000)(i a:Nat)(w:World)(h:DD w v ns)(hi:i<ns.length)(hkk:kdA ns i=8)(hH:hlF ns i=[i+1,a])(ha:hdF ns a=(i:Int))(hal:a<ns.length) :
  Calls Tryz.prog 27 #[v,nI (i:Nat)] w λe w'=>∃lv,e=.returned lv/\SL w' 6 lv (elR ns i).length (edL (elR ns i))/\Ok w w':=by
 have HSN:Hi (∀W,Ok w W->DD W v ns):=λW hW=>h.below hW;obtain⟨_,ao,cap,rfl,_,_,hN⟩:=h;obtain⟨b,o,rfl,N1⟩:=hN.resolve_left (λe=>by rw[e]at hi;simp at hi);have HN:=hid N1;have HI:Hi (i<ns.length/\ns.length<=1000):=⟨hi,hl⟩;have HTR:=hid hT;have HKD:Hi (2<=kdA ns i/\kdA ns i<=8):=by unfold Hi;omega
 have HHL:=hid hH;clear N1 hN;obtain⟨q,hq⟩:=qq (ptF ns i);obtain⟨t,ht⟩:=qq (BH ns i);obtain⟨t1,ht1⟩:=qq (BG ns a);have HQ:Hi (q=ptF ns i/\t=BH ns i/\t1=BG ns a):=⟨hq,ht,ht1⟩;have HA:Hi (hdF ns a=(i:Int)/\a<ns.length):=⟨ha,hal⟩
 have HE:Hi (elR ns i=[⟨(q:Nat),(t1:Nat),5,((i+1:Nat):Int),true,true⟩,⟨(q:Nat),(t:Nat),5,((i+1:Nat):Int),false,true⟩]):=by unfold Hi elR;rw[if_pos (by omega),hH,hkk,hq,ht1,ht];rfl
 rw[HE.o];have hi2:(i:Int)<(ns.length:Int):=za5 hi;obtain⟨ni,hni⟩:∃n,ns[i]?=some n:=⟨_,gG_ hi⟩;have HNI:Hi (ns[i]?=some ni/\ni.kind=8):=⟨hni,by rw[<-ze1 hni,hkk]⟩;clear hni hkk hq ht ht1 ha hal hH;go_enter Tryz.func27,Tryz.ntmps27
 go_wp2_with (first
  |(go_at_call 25;refine mq (zd2 _ ns i _ (HSN.o _ (Ok.refl _)) (by have:=HI.o;omega)) λw1 hk1=>?_;have HK1:=hid hk1;have M1:=HN.o.below HK1.o;have lb1:=M1.lt;have c1:=(M1.get HNI.o.1).2.1;rw[HNI.o.2]at c1;rw[<-HQ.o.1];clear M1 hk1)
  |(go_at_call 49;refine(zw0 _ ns i _ (HSN.o _ HK1.o) HI.o.1 HI.o.2).mono ?_;rintro e w2 ⟨hv,rfl,ho2,hk2⟩;have HK2:=hid (HK1.o.step hk2);rw[HHL.o]at ho2;obtain⟨hg,hcap,rfl,_⟩:=ho2.form (by simp);have HO2:=hid ho2;clear ho2 hk2)
  |(go_at_call 48;refine mq (zg7 _ ns HTR.o HI.o.2 i _ (HSN.o _ HK2.o) HI.o.1 HKD.o) λw3 hk3=>?_;have HK3:=hid (HK2.o.step hk3);have HO3:=hid (za1 HO2.o hk3);have lg3:=(HO3.o.lt hg rfl).2;rw[<-HQ.o.2.1];clear hk3)
  | fail)
 have l4:=(HO3.o.lt hg rfl).2;have k0:w3.drew.cell? (aD hg 0)=some (nI ((i+1:Nat):Int)):=zj9 HO3.o 0 _ rfl;have k1:w3.drew.cell? (aD hg 1)=some (nI (a:Nat)):=zj9 HO3.o 1 _ rfl;have K01:=And.intro k0 k1
 go_region_held3 (λw'=>w'.cell? (aD hg 0)=some (nI ((i+1:Nat):Int))/\w'.cell? (aD hg 1)=some (nI (a:Nat)))
  (first|(with_reducible exact d01) | (with_reducible exact K01) | go_keep)
  (first
  |(go_at_call 50;refine(Calls.mono (zn5 _ ns HTR.o HI.o.2 a i _ (HSN.o _ (HK3.o.draws _)) HA.o.2 HA.o.1 HI.o.1 HKD.o) ?_);rintro e w5 ⟨rfl,hk5⟩;have HK5:Hi (Ok w w5):=(HK3.o.draws _).step hk5;have HO5:Hi (w5.ownsRow w1.heap.size 3 1 (.slice (sA hg 0) 2 hcap) 2 (inL [i+1,a])):=za1 HO3.o (Ok.step (by repeat (first | exact Ok.refl _ | refine Below.drew ?_)) hk5);have d01:=And.intro (zj9 HO5.o 0 _ rfl) (zj9 HO5.o 1 _ rfl);rw[<-HQ.o.2.2];clear hk5)
  | fail)
 go_wp2_with fail;go_ret;exact⟨_,rfl,SL.many w5 59 (edL [⟨(q:Nat),(t1:Nat),5,((i+1:Nat):Int),true,true⟩,⟨(q:Nat),(t:Nat),5,((i+1:Nat):Int),false,true⟩]) (by rfl) (by simp[edL,edV,Value.oneCell']),HK5.o.alloc _⟩
theorem zX4(v:Value)(ns:List Nd)(hT:AM ns)(hl:ns.length<=1000)(i:Nat)(w:World)(h:DD w v ns)(hi:i<ns.length)(hk:2<=kdA ns i/\kdA ns i<=8) :
  Calls Tryz.prog 27 #[v,nI (i:Nat)] w λe w'=>∃lv,e=.returned lv/\SL w' 6 lv (elR ns i).length (edL (elR ns i))/\Ok w w':=by
 by_cases hc:kdA ns i=7\/kdA ns i=8
 ·obtain⟨t1,t2,t3,t4,t5,t6⟩:=hT.two hi hc
  have hlo:=ze8 (ns:=ns) (p:=i+1);have hal:=(zc1 (ns:=ns) (p:=i) (q:=AB ns (i+1)) oM t2).2;have ha:=wj6 hT (i:=AB ns (i+1)) (g:=i) oM t2 t3;rcases yw1 hT hi hc with ⟨e1,e2⟩ | ⟨e1,e2⟩
  ·rcases hc with h7 | h8
   ·exact yl2 v ns hT hl i _ w h hi h7 e2 ha hal
   exact yl4 v ns hT hl i _ w h hi h8 e2 ha hal
  rcases t6 with e | ⟨q1,q2,q3,q4,q5⟩
  ·omega
  have hlo2:=ze8 (ns:=ns) (p:=AB ns (i+1));exact yl3 v ns hT hl i _ _ w h hi q1 e2 ha hal (wj6 hT oM e1 q4) (zc1 (ns:=ns) (p:=i) oM e1).2
 exact zI7 v ns hT hl i w h hi hk hc
end
end Go.Proofs.YtpongdpnbclchaaGreatDoor
