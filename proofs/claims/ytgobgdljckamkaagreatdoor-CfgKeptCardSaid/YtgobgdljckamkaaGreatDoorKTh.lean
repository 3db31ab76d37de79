import Derived.Test.YtgobgdljckamkaaGreatDoorKTf
set_option linter.unusedVariables false
set_option linter.unusedSimpArgs false
set_option linter.unnecessarySimpa false
namespace Go.Proofs.YtgobgdljckamkaaGreatDoor
section
open Go.RowKit
theorem ye3 {ns:List Nd} (h:TreeOK ns):∀ {i:Nat},i<ns.length→depA ns i≤(i:Int)+1
 | 0,hi=>by
  have h0:depA ns 0=1:=by rw [zc8 (List.getElem?_eq_getElem hi)];exact h.shp.first hi
  omega
 | i+1,hi=>by
  have h1:=ye3 h (show i<ns.length by omega)
  have h2:=h.step hi
  omega
set_option maxRecDepth 100000 in
set_option maxHeartbeats 8000000 in
theorem zl8 (v:Value) (ns:List Nd) (hT:TreeOK ns) (hl:ns.length≤1000) (i g:Nat) (w:World) (h:SNds w v ns) (hi:i<ns.length) (hh:hdF ns i=(g:Int)) (hg:g<ns.length) (hk:2≤kdA ns g∧kdA ns g≤8) :
  Calls Tryz.prog 44 #[v,.int .i64 (i:Nat)] w fun e w'=>e=.returned (.int .i64 (BG ns i:Nat))∧Ok w w':=by
 have HSN:Hid (∀ W,Ok w W→SNds W v ns):=fun W hW=>h.below hW
 obtain ⟨_,ao,cap,rfl,_,_,hN⟩:=h
 obtain ⟨b,o,rfl,N1⟩:=hN.resolve_left (fun e=>by rw [e] at hi;simp at hi)
 have HN:Hid (NodesAt w b o ns):=N1
 have M0:=N1
 have lb0:=N1.lt
 have HI:Hid (i<ns.length∧ns.length≤1000):=⟨hi,hl⟩
 have HTR:=hid hT
 have HH:=hid hh
 have HAG:Hid (g<ns.length∧(2≤kdA ns g∧kdA ns g≤8)):=⟨hg,hk⟩
 clear N1 hN
 obtain ⟨r,hr⟩:∃ x,x=BG ns i:=⟨_,rfl⟩
 rw [←hr]
 unfold BG bgR at hr
 rw [hh,Int.toNat_natCast] at hr
 have hd1:=ye3 hT hi
 have hd2:=hT.dep hi
 obtain ⟨ni,hni⟩:∃ n,ns[i]?=some n:=⟨_,List.getElem?_eq_getElem hi⟩
 obtain ⟨m,hm⟩:∃ m:Nat,depA ns i=(m:Int):=⟨(depA ns i).toNat,by omega⟩
 have d0:=(M0.get hni).1
 rw [←zc8 hni,hm] at d0
 rw [hm] at hr
 have hmw:IntKind.i64.wrap ((m:Int)+1)=((m+1:Nat):Int):=zb0 (by omega)
 have hiw:IntKind.i64.wrap ((i:Int)+1)=((i+1:Nat):Int):=zb0 (by omega)
 have hi2:(i:Int)<(ns.length:Int):=za4 hi
 have hgl2:(g:Int)<(ns.length:Int):=za4 hg
 obtain ⟨ng,hng⟩:∃ n,ns[g]?=some n:=⟨_,List.getElem?_eq_getElem hg⟩
 have HGN:Hid (ns[g]?=some ng):=hng
 rw [zd6 hng] at hr
 clear hng hni hd1 hd2 hm hk hh
 by_cases h1:i+1<ns.length
 ·have h1':((i+1:Nat):Int)<(ns.length:Int):=za4 h1
  have h1'':(i:Int)+1<(ns.length:Int):=by omega
  have h1d:decide (((i+1:Nat):Int)<(ns.length:Int))=true:=decide_eq_true h1'
  have h1n:decide (i+1<ns.length)=true:=decide_eq_true h1
  have h1e:decide ((i:Int)+1<(ns.length:Int))=true:=decide_eq_true h1''
  obtain ⟨nj,hnj⟩:∃ n,ns[i+1]?=some n:=⟨_,List.getElem?_eq_getElem h1⟩
  have c0:=(M0.get hnj).1
  rw [zc8 hnj] at hr
  clear hnj M0
  by_cases h2:nj.depth=((m+1:Nat):Int)
  ·have h2':nj.depth=(m:Int)+1:=by omega
   have h2d:decide (nj.depth=((m+1:Nat):Int))=true:=decide_eq_true h2
   have h2e:decide (nj.depth=(m:Int)+1)=true:=decide_eq_true h2'
   rw [if_pos ⟨h1,h2'⟩] at hr
   have HQ:Hid (r=ptF ns (i+1)):=hr
   clear hr
   go_enter Tryz.func44,Tryz.ntmps44
   go_wp2_with fail
   go_quiet (fail)
   go_wp2_with (first
    | (go_at_call 24;refine (zc7 _ ns (i+1) _ (HSN.out _ ((Ok.refl _).draws _)) (by have:=HI.out;omega)).mono ?_;rintro e w9 ⟨rfl,hk9⟩;have HK9:Hid (Ok w w9):=((Ok.refl w).draws _).step hk9;clear hk9)
    | fail)
   go_ret
   exact ⟨by rw [HQ.out];rfl,HK9.out⟩
  ·have h2':¬nj.depth=(m:Int)+1:=by omega
   have h2d:decide (nj.depth=((m+1:Nat):Int))=false:=decide_eq_false h2
   have h2e:decide (nj.depth=(m:Int)+1)=false:=decide_eq_false h2'
   rw [if_neg (fun h=>h2' h.2)] at hr
   by_cases h8:ng.kind=8
   ·have h8d:decide (ng.kind=8)=true:=decide_eq_true h8
    have HQ:Hid (r=ptF ns g):=by unfold Hid;rw [hr,if_pos h8]
    clear hr
    go_enter Tryz.func44,Tryz.ntmps44
    go_wp2_with fail
    go_quiet (fail)
    go_wp2_with (first
     | (go_at_call 71;refine (zb8 _ ns i _ (HSN.out _ ((Ok.refl _).draws _)) HI.out.1 (by have:=HI.out;omega)).mono ?_;rintro e w1 ⟨rfl,hk1⟩;have HK1:Hid (Ok w w1):=((Ok.refl w).draws _).step hk1;rw [HH.out];have M3:=HN.out.below HK1.out;have lb3:=M3.lt;have g1:=(M3.get HGN.out).2.1;clear M3 hk1)
     | (go_at_call 24;refine (zc7 _ ns g _ (HSN.out _ (HK1.out)) (by have:=HI.out;omega)).mono ?_;rintro e w9 ⟨rfl,hk9⟩;have HK9:Hid (Ok w w9):=(HK1.out).step hk9;clear hk9)
     | fail)
    go_ret
    exact ⟨by rw [HQ.out];rfl,HK9.out⟩
   ·have h8d:decide (ng.kind=8)=false:=decide_eq_false h8
    have HQ:Hid (r=BH ns g):=by unfold Hid;rw [hr,if_neg h8];rfl
    clear hr
    go_enter Tryz.func44,Tryz.ntmps44
    go_wp2_with fail
    go_quiet (fail)
    go_wp2_with (first
     | (go_at_call 71;refine (zb8 _ ns i _ (HSN.out _ ((Ok.refl _).draws _)) HI.out.1 (by have:=HI.out;omega)).mono ?_;rintro e w1 ⟨rfl,hk1⟩;have HK1:Hid (Ok w w1):=((Ok.refl w).draws _).step hk1;rw [HH.out];have M3:=HN.out.below HK1.out;have lb3:=M3.lt;have g1:=(M3.get HGN.out).2.1;clear M3 hk1)
     | (go_at_call 42;refine (zg3 _ ns HTR.out HI.out.2 g _ (HSN.out _ HK1.out) HAG.out.1 HAG.out.2).mono ?_;rintro e w9 ⟨rfl,hk9⟩;have HK9:Hid (Ok w w9):=HK1.out.step hk9;clear hk9)
     | fail)
    go_ret
    exact ⟨by rw [HQ.out];rfl,HK9.out⟩
 ·have h1':¬((i+1:Nat):Int)<(ns.length:Int):=za9 h1
  have h1'':¬(i:Int)+1<(ns.length:Int):=by omega
  have h1d:decide (((i+1:Nat):Int)<(ns.length:Int))=false:=decide_eq_false h1'
  have h1n:decide (i+1<ns.length)=false:=decide_eq_false h1
  have h1e:decide ((i:Int)+1<(ns.length:Int))=false:=decide_eq_false h1''
  rw [if_neg (fun h=>h1 h.1)] at hr
  clear M0
  by_cases h8:ng.kind=8
  ·have h8d:decide (ng.kind=8)=true:=decide_eq_true h8
   have HQ:Hid (r=ptF ns g):=by unfold Hid;rw [hr,if_pos h8]
   clear hr
   go_enter Tryz.func44,Tryz.ntmps44
   go_wp2_with fail
   go_quiet (fail)
   go_wp2_with (first
    | (go_at_call 71;refine (zb8 _ ns i _ (HSN.out _ ((Ok.refl _).draws _)) HI.out.1 (by have:=HI.out;omega)).mono ?_;rintro e w1 ⟨rfl,hk1⟩;have HK1:Hid (Ok w w1):=((Ok.refl w).draws _).step hk1;rw [HH.out];have M3:=HN.out.below HK1.out;have lb3:=M3.lt;have g1:=(M3.get HGN.out).2.1;clear M3 hk1)
    | (go_at_call 24;refine (zc7 _ ns g _ (HSN.out _ (HK1.out)) (by have:=HI.out;omega)).mono ?_;rintro e w9 ⟨rfl,hk9⟩;have HK9:Hid (Ok w w9):=(HK1.out).step hk9;clear hk9)
    | fail)
   go_ret
   exact ⟨by rw [HQ.out];rfl,HK9.out⟩
  ·have h8d:decide (ng.kind=8)=false:=decide_eq_false h8
   have HQ:Hid (r=BH ns g):=by unfold Hid;rw [hr,if_neg h8];rfl
   clear hr
   go_enter Tryz.func44,Tryz.ntmps44
   go_wp2_with fail
   go_quiet (fail)
   go_wp2_with (first
    | (go_at_call 71;refine (zb8 _ ns i _ (HSN.out _ ((Ok.refl _).draws _)) HI.out.1 (by have:=HI.out;omega)).mono ?_;rintro e w1 ⟨rfl,hk1⟩;have HK1:Hid (Ok w w1):=((Ok.refl w).draws _).step hk1;rw [HH.out];have M3:=HN.out.below HK1.out;have lb3:=M3.lt;have g1:=(M3.get HGN.out).2.1;clear M3 hk1)
    | (go_at_call 42;refine (zg3 _ ns HTR.out HI.out.2 g _ (HSN.out _ HK1.out) HAG.out.1 HAG.out.2).mono ?_;rintro e w9 ⟨rfl,hk9⟩;have HK9:Hid (Ok w w9):=HK1.out.step hk9;clear hk9)
    | fail)
   go_ret
   exact ⟨by rw [HQ.out];rfl,HK9.out⟩
end
section
open Go.RowKit
theorem SL.many (w:World) (t:TypeId) (xs:List Value) {s n:Nat} (hs:xs.length=n*s) (h1:∀ u∈xs,u.oneCell'=true):SL (w.alloc (.cells xs.toArray t)) s (.slice (some ⟨w.heap.size,0,none⟩) n n) n xs:=by
 refine ⟨hs,h1,_,_,rfl,.inr ⟨_,_,rfl,by simp,fun j u hj=>?_⟩⟩
 have hlt:=(List.getElem?_eq_some_iff.1 hj).1
 have h0:(w.alloc (.cells xs.toArray t)).heap[w.heap.size]?=some (.cells xs.toArray t (0,0)):=zd0 _ _ _ (by simp)
 rw [Nat.zero_add]
 exact (cell_of_row _ _ j _ _ _ h0).trans (by simpa using hj)
set_option maxRecDepth 100000 in
set_option maxHeartbeats 8000000 in
theorem zB9 (v:Value) (ns:List Nd) (hT:TreeOK ns) (hl:ns.length≤1000) (i:Nat) (w:World) (h:SNds w v ns) (hi:i<ns.length) (hk:2≤kdA ns i∧kdA ns i≤8) (hc:¬(kdA ns i=7∨kdA ns i=8)) :
  Calls Tryz.prog 26 #[v,.int .i64 (i:Nat)] w fun e w'=>∃ lv,e=.returned lv∧SL w' 6 lv (elR ns i).length (edL (elR ns i))∧Ok w w':=by
 have HSN:Hid (∀ W,Ok w W→SNds W v ns):=fun W hW=>h.below hW
 obtain ⟨_,ao,cap,rfl,_,_,hN⟩:=h
 obtain ⟨b,o,rfl,N1⟩:=hN.resolve_left (fun e=>by rw [e] at hi;simp at hi)
 have HN:Hid (NodesAt w b o ns):=N1
 have HI:Hid (i<ns.length∧ns.length≤1000):=⟨hi,hl⟩
 have HTR:=hid hT
 have HKD:=hid hk
 clear N1 hN
 obtain ⟨k,hkk⟩:∃ x,x=kdA ns i:=⟨_,rfl⟩
 obtain ⟨q,hq⟩:∃ x,x=ptF ns i:=⟨_,rfl⟩
 obtain ⟨t,ht⟩:∃ x,x=BH ns i:=⟨_,rfl⟩
 have HQ:Hid (q=ptF ns i∧t=BH ns i):=⟨hq,ht⟩
 have HE:Hid (elR ns i=[⟨(q:Nat),(t:Nat),k-2,(i:Nat),false,false⟩]):=by
  unfold Hid elR;rw [if_neg hc,hq,ht,hkk]
 rw [HE.out]
 rw [←hkk] at hc hk
 have h7:¬k=7:=fun e=>hc (.inl e)
 have h8:¬k=8:=fun e=>hc (.inr e)
 have h7d:decide (k=7)=false:=decide_eq_false h7
 have h8d:decide (k=8)=false:=decide_eq_false h8
 have h7b:(k != 7)=true:=by simpa using h7
 have h8b:(k != 8)=true:=by simpa using h8
 have h78b:(k != 7&&k != 8)=true:=by rw [h7b,h8b];rfl
 have hkw:IntKind.i64.wrap (k-2)=k-2:=by rw [IntKind.wrap_i64];omega
 have hkw2:wrap64 (k-2)=k-2:=by unfold wrap64;omega
 have hi2:(i:Int)<(ns.length:Int):=za4 hi
 obtain ⟨ni,hni⟩:∃ n,ns[i]?=some n:=⟨_,List.getElem?_eq_getElem hi⟩
 have HNI:Hid (ns[i]?=some ni∧ni.kind=k):=⟨hni,by rw [hkk,zd6 hni]⟩
 clear hni hkk hq ht hc
 go_enter Tryz.func26,Tryz.ntmps26
 go_wp2_with (first
  | (go_at_call 24;refine (zc7 _ ns i _ (HSN.out _ (Ok.refl _)) (by have:=HI.out;omega)).mono ?_;rintro e w1 ⟨rfl,hk1⟩;have HK1:Hid (Ok w w1):=hk1;have M1:=HN.out.below HK1.out;have lb1:=M1.lt;have c1:=(M1.get HNI.out.1).2.1;rw [HNI.out.2] at c1;rw [←HQ.out.1];clear M1 hk1)
  | (go_at_call 42;refine (zg3 _ ns HTR.out HI.out.2 i _ (HSN.out _ HK1.out) HI.out.1 HKD.out).mono ?_;rintro e w2 ⟨rfl,hk2⟩;have HK2:Hid (Ok w w2):=HK1.out.step hk2;rw [←HQ.out.2];clear hk2)
  | fail)
 go_ret
 exact ⟨_,rfl,SL.many w2 53 (edL [⟨(q:Nat),(t:Nat),k-2,(i:Nat),false,false⟩]) (by rfl) (by simp [edL,edV,Value.oneCell']),HK2.out.alloc _⟩
theorem zj4 {w:World} {B g cap:Nat} {n:Nat} {l:List Nat} (h:w.ownsRow B 3 1 (.slice (some ⟨g,0,none⟩) n cap) n (inL l)) (k x:Nat) (hk:l[k]?=some x):w.cell? ⟨g,k,none⟩=some (.int .i64 (x:Nat)):=by
 have:=h.cells (g:=g) rfl k _ (show (inL l)[k]?=some (.int .i64 (x:Nat)) by unfold inL;rw [List.getElem?_map,hk];rfl)
 rw [zc0,Nat.zero_add] at this
 exact this
set_option maxRecDepth 100000 in
set_option maxHeartbeats 8000000 in
theorem zV8 (v:Value) (ns:List Nd) (hT:TreeOK ns) (hl:ns.length≤1000) (i a:Nat) (w:World) (h:SNds w v ns) (hi:i<ns.length) (hkk:kdA ns i=7) (hH:hlF ns i=[i+1,a]) (ha:hdF ns a=(i:Int)) (hal:a<ns.length) :
  Calls Tryz.prog 26 #[v,.int .i64 (i:Nat)] w fun e w'=>∃ lv,e=.returned lv∧SL w' 6 lv (elR ns i).length (edL (elR ns i))∧Ok w w':=by
 have HSN:Hid (∀ W,Ok w W→SNds W v ns):=fun W hW=>h.below hW
 obtain ⟨_,ao,cap,rfl,_,_,hN⟩:=h
 obtain ⟨b,o,rfl,N1⟩:=hN.resolve_left (fun e=>by rw [e] at hi;simp at hi)
 have HN:Hid (NodesAt w b o ns):=N1
 have HI:Hid (i<ns.length∧ns.length≤1000):=⟨hi,hl⟩
 have HTR:=hid hT
 have HKD:Hid (2≤kdA ns i∧kdA ns i≤8):=by unfold Hid;omega
 have HHL:=hid hH
 clear N1 hN
 obtain ⟨q,hq⟩:∃ x,x=ptF ns i:=⟨_,rfl⟩
 obtain ⟨t,ht⟩:∃ x,x=BH ns i:=⟨_,rfl⟩
 obtain ⟨t1,ht1⟩:∃ x,x=BG ns a:=⟨_,rfl⟩
 have HQ:Hid (q=ptF ns i∧t=BH ns i∧t1=BG ns a):=⟨hq,ht,ht1⟩
 have HA:Hid (hdF ns a=(i:Int)∧a<ns.length):=⟨ha,hal⟩
 have HE:Hid (elR ns i=[⟨(q:Nat),(t1:Nat),5,((i+1:Nat):Int),true,false⟩,⟨(q:Nat),(t:Nat),5,((i+1:Nat):Int),false,false⟩]):=by
  unfold Hid elR;rw [if_pos (by omega),hH,hkk,hq,ht1,ht];rfl
 rw [HE.out]
 have hi2:(i:Int)<(ns.length:Int):=za4 hi
 obtain ⟨ni,hni⟩:∃ n,ns[i]?=some n:=⟨_,List.getElem?_eq_getElem hi⟩
 have HNI:Hid (ns[i]?=some ni∧ni.kind=7):=⟨hni,by rw [←zd6 hni,hkk]⟩
 clear hni hkk hq ht ht1 ha hal hH
 go_enter Tryz.func26,Tryz.ntmps26
 go_wp2_with (first
  | (go_at_call 24;refine (zc7 _ ns i _ (HSN.out _ (Ok.refl _)) (by have:=HI.out;omega)).mono ?_;rintro e w1 ⟨rfl,hk1⟩;have HK1:Hid (Ok w w1):=hk1;have M1:=HN.out.below HK1.out;have lb1:=M1.lt;have c1:=(M1.get HNI.out.1).2.1;rw [HNI.out.2] at c1;rw [←HQ.out.1];clear M1 hk1)
  | (go_at_call 43;refine (zt2 _ ns i _ (HSN.out _ HK1.out) HI.out.1 HI.out.2).mono ?_;rintro e w2 ⟨hv,rfl,ho2,hk2⟩;have HK2:Hid (Ok w w2):=HK1.out.step hk2;rw [HHL.out] at ho2;obtain ⟨hg,hcap,rfl,_⟩:=ho2.form (by simp);have HO2:Hid (w2.ownsRow w1.heap.size 3 1 (.slice (some ⟨hg,0,none⟩) 2 hcap) 2 (inL [i+1,a])):=ho2;clear ho2 hk2)
  | (go_at_call 42;refine (zg3 _ ns HTR.out HI.out.2 i _ (HSN.out _ HK2.out) HI.out.1 HKD.out).mono ?_;rintro e w3 ⟨rfl,hk3⟩;have HK3:Hid (Ok w w3):=HK2.out.step hk3;have HO3:Hid (w3.ownsRow w1.heap.size 3 1 (.slice (some ⟨hg,0,none⟩) 2 hcap) 2 (inL [i+1,a])):=za1 HO2.out hk3;have lg3:=(HO3.out.lt hg rfl).2;rw [←HQ.out.2.1];clear hk3)
  | fail)
 have l4:=(HO3.out.lt hg rfl).2
 have k0:w3.drew.cell? ⟨hg,0,none⟩=some (.int .i64 ((i+1:Nat):Int)):=zj4 HO3.out 0 _ rfl
 have k1:w3.drew.cell? ⟨hg,1,none⟩=some (.int .i64 (a:Nat)):=zj4 HO3.out 1 _ rfl
 have K01:=And.intro k0 k1
 go_region_held3 (fun w'=>w'.cell? ⟨hg,0,none⟩=some (.int .i64 ((i+1:Nat):Int))∧w'.cell? ⟨hg,1,none⟩=some (.int .i64 (a:Nat)))
  (first | (with_reducible exact d01) | (with_reducible exact K01) | go_keep)
  (first
  | (go_at_call 44;refine (Calls.mono (zl8 _ ns HTR.out HI.out.2 a i _ (HSN.out _ (HK3.out.draws _)) HA.out.2 HA.out.1 HI.out.1 HKD.out) ?_);rintro e w5 ⟨rfl,hk5⟩;have HK5:Hid (Ok w w5):=(HK3.out.draws _).step hk5;have HO5:Hid (w5.ownsRow w1.heap.size 3 1 (.slice (some ⟨hg,0,none⟩) 2 hcap) 2 (inL [i+1,a])):=za1 HO3.out (Ok.step (by repeat (first | exact Ok.refl _ | refine Below.drew ?_)) hk5);have d01:=And.intro (zj4 HO5.out 0 _ rfl) (zj4 HO5.out 1 _ rfl);rw [←HQ.out.2.2];clear hk5)
  | fail)
 go_wp2_with fail
 go_ret
 exact ⟨_,rfl,SL.many w5 53 (edL [⟨(q:Nat),(t1:Nat),5,((i+1:Nat):Int),true,false⟩,⟨(q:Nat),(t:Nat),5,((i+1:Nat):Int),false,false⟩]) (by rfl) (by simp [edL,edV,Value.oneCell']),HK5.out.alloc _⟩
set_option maxRecDepth 100000 in
set_option maxHeartbeats 8000000 in
theorem zV9 (v:Value) (ns:List Nd) (hT:TreeOK ns) (hl:ns.length≤1000) (i a s:Nat) (w:World) (h:SNds w v ns) (hi:i<ns.length) (hkk:kdA ns i=7) (hH:hlF ns i=[i+1,a,s]) (ha:hdF ns a=(i:Int)) (hal:a<ns.length) (hs:hdF ns s=(i:Int)) (hsl:s<ns.length) :
  Calls Tryz.prog 26 #[v,.int .i64 (i:Nat)] w fun e w'=>∃ lv,e=.returned lv∧SL w' 6 lv (elR ns i).length (edL (elR ns i))∧Ok w w':=by
 have HSN:Hid (∀ W,Ok w W→SNds W v ns):=fun W hW=>h.below hW
 obtain ⟨_,ao,cap,rfl,_,_,hN⟩:=h
 obtain ⟨b,o,rfl,N1⟩:=hN.resolve_left (fun e=>by rw [e] at hi;simp at hi)
 have HN:Hid (NodesAt w b o ns):=N1
 have HI:Hid (i<ns.length∧ns.length≤1000):=⟨hi,hl⟩
 have HTR:=hid hT
 have HKD:Hid (2≤kdA ns i∧kdA ns i≤8):=by unfold Hid;omega
 have HHL:=hid hH
 clear N1 hN
 obtain ⟨q,hq⟩:∃ x,x=ptF ns i:=⟨_,rfl⟩
 obtain ⟨t,ht⟩:∃ x,x=BH ns i:=⟨_,rfl⟩
 obtain ⟨t1,ht1⟩:∃ x,x=BG ns a:=⟨_,rfl⟩
 obtain ⟨s2,hs2⟩:∃ x,x=BG ns s:=⟨_,rfl⟩
 have HQ:Hid (q=ptF ns i∧t=BH ns i∧t1=BG ns a):=⟨hq,ht,ht1⟩
 have HA:Hid (hdF ns a=(i:Int)∧a<ns.length):=⟨ha,hal⟩
 have HS2:Hid (s2=BG ns s∧hdF ns s=(i:Int)∧s<ns.length):=⟨hs2,hs,hsl⟩
 have HE:Hid (elR ns i=[⟨(q:Nat),(t1:Nat),5,((i+1:Nat):Int),true,false⟩,⟨(q:Nat),(s2:Nat),5,((i+1:Nat):Int),false,false⟩]):=by
  unfold Hid elR;rw [if_pos (by omega),hH,hkk,hq,ht1,hs2];rfl
 rw [HE.out]
 have hi2:(i:Int)<(ns.length:Int):=za4 hi
 obtain ⟨ni,hni⟩:∃ n,ns[i]?=some n:=⟨_,List.getElem?_eq_getElem hi⟩
 have HNI:Hid (ns[i]?=some ni∧ni.kind=7):=⟨hni,by rw [←zd6 hni,hkk]⟩
 clear hni hkk hq ht ht1 ha hal hH hs2 hs hsl
 go_enter Tryz.func26,Tryz.ntmps26
 go_wp2_with (first
  | (go_at_call 24;refine (zc7 _ ns i _ (HSN.out _ (Ok.refl _)) (by have:=HI.out;omega)).mono ?_;rintro e w1 ⟨rfl,hk1⟩;have HK1:Hid (Ok w w1):=hk1;have M1:=HN.out.below HK1.out;have lb1:=M1.lt;have c1:=(M1.get HNI.out.1).2.1;rw [HNI.out.2] at c1;rw [←HQ.out.1];clear M1 hk1)
  | (go_at_call 43;refine (zt2 _ ns i _ (HSN.out _ HK1.out) HI.out.1 HI.out.2).mono ?_;rintro e w2 ⟨hv,rfl,ho2,hk2⟩;have HK2:Hid (Ok w w2):=HK1.out.step hk2;rw [HHL.out] at ho2;obtain ⟨hg,hcap,rfl,_⟩:=ho2.form (by simp);have HO2:Hid (w2.ownsRow w1.heap.size 3 1 (.slice (some ⟨hg,0,none⟩) 3 hcap) 3 (inL [i+1,a,s])):=ho2;clear ho2 hk2)
  | (go_at_call 42;refine (zg3 _ ns HTR.out HI.out.2 i _ (HSN.out _ HK2.out) HI.out.1 HKD.out).mono ?_;rintro e w3 ⟨rfl,hk3⟩;have HK3:Hid (Ok w w3):=HK2.out.step hk3;have HO3:Hid (w3.ownsRow w1.heap.size 3 1 (.slice (some ⟨hg,0,none⟩) 3 hcap) 3 (inL [i+1,a,s])):=za1 HO2.out hk3;have lg3:=(HO3.out.lt hg rfl).2;have d2:=zj4 HO3.out 2 _ rfl;rw [←HQ.out.2.1];clear hk3)
  | (go_at_call 44;refine (zl8 _ ns HTR.out HI.out.2 s i _ (HSN.out _ HK3.out) HS2.out.2.2 HS2.out.2.1 HI.out.1 HKD.out).mono ?_;rintro e w4 ⟨rfl,hk4⟩;have HK4:Hid (Ok w w4):=HK3.out.step hk4;have HO4:Hid (w4.ownsRow w1.heap.size 3 1 (.slice (some ⟨hg,0,none⟩) 3 hcap) 3 (inL [i+1,a,s])):=za1 HO3.out hk4;rw [←HS2.out.1];clear hk4)
  | fail)
 have l4:=(HO4.out.lt hg rfl).2
 have k0:w4.drew.cell? ⟨hg,0,none⟩=some (.int .i64 ((i+1:Nat):Int)):=zj4 HO4.out 0 _ rfl
 have k1:w4.drew.cell? ⟨hg,1,none⟩=some (.int .i64 (a:Nat)):=zj4 HO4.out 1 _ rfl
 have K01:=And.intro k0 k1
 go_region_held3 (fun w'=>w'.cell? ⟨hg,0,none⟩=some (.int .i64 ((i+1:Nat):Int))∧w'.cell? ⟨hg,1,none⟩=some (.int .i64 (a:Nat)))
  (first | (with_reducible exact d01) | (with_reducible exact K01) | go_keep)
  (first
  | (go_at_call 44;refine (Calls.mono (zl8 _ ns HTR.out HI.out.2 a i _ (HSN.out _ (HK4.out.draws _)) HA.out.2 HA.out.1 HI.out.1 HKD.out) ?_);rintro e w5 ⟨rfl,hk5⟩;have HK5:Hid (Ok w w5):=(HK4.out.draws _).step hk5;have HO5:Hid (w5.ownsRow w1.heap.size 3 1 (.slice (some ⟨hg,0,none⟩) 3 hcap) 3 (inL [i+1,a,s])):=za1 HO4.out (Ok.step (by repeat (first | exact Ok.refl _ | refine Below.drew ?_)) hk5);have d01:=And.intro (zj4 HO5.out 0 _ rfl) (zj4 HO5.out 1 _ rfl);rw [←HQ.out.2.2];clear hk5)
  | fail)
 go_wp2_with fail
 go_ret
 exact ⟨_,rfl,SL.many w5 53 (edL [⟨(q:Nat),(t1:Nat),5,((i+1:Nat):Int),true,false⟩,⟨(q:Nat),(s2:Nat),5,((i+1:Nat):Int),false,false⟩]) (by rfl) (by simp [edL,edV,Value.oneCell']),HK5.out.alloc _⟩
set_option maxRecDepth 100000 in
set_option maxHeartbeats 8000000 in
theorem zW0 (v:Value) (ns:List Nd) (hT:TreeOK ns) (hl:ns.length≤1000) (i a:Nat) (w:World) (h:SNds w v ns) (hi:i<ns.length) (hkk:kdA ns i=8) (hH:hlF ns i=[i+1,a]) (ha:hdF ns a=(i:Int)) (hal:a<ns.length) :
  Calls Tryz.prog 26 #[v,.int .i64 (i:Nat)] w fun e w'=>∃ lv,e=.returned lv∧SL w' 6 lv (elR ns i).length (edL (elR ns i))∧Ok w w':=by
 have HSN:Hid (∀ W,Ok w W→SNds W v ns):=fun W hW=>h.below hW
 obtain ⟨_,ao,cap,rfl,_,_,hN⟩:=h
 obtain ⟨b,o,rfl,N1⟩:=hN.resolve_left (fun e=>by rw [e] at hi;simp at hi)
 have HN:Hid (NodesAt w b o ns):=N1
 have HI:Hid (i<ns.length∧ns.length≤1000):=⟨hi,hl⟩
 have HTR:=hid hT
 have HKD:Hid (2≤kdA ns i∧kdA ns i≤8):=by unfold Hid;omega
 have HHL:=hid hH
 clear N1 hN
 obtain ⟨q,hq⟩:∃ x,x=ptF ns i:=⟨_,rfl⟩
 obtain ⟨t,ht⟩:∃ x,x=BH ns i:=⟨_,rfl⟩
 obtain ⟨t1,ht1⟩:∃ x,x=BG ns a:=⟨_,rfl⟩
 have HQ:Hid (q=ptF ns i∧t=BH ns i∧t1=BG ns a):=⟨hq,ht,ht1⟩
 have HA:Hid (hdF ns a=(i:Int)∧a<ns.length):=⟨ha,hal⟩
 have HE:Hid (elR ns i=[⟨(q:Nat),(t1:Nat),5,((i+1:Nat):Int),true,true⟩,⟨(q:Nat),(t:Nat),5,((i+1:Nat):Int),false,true⟩]):=by
  unfold Hid elR;rw [if_pos (by omega),hH,hkk,hq,ht1,ht];rfl
 rw [HE.out]
 have hi2:(i:Int)<(ns.length:Int):=za4 hi
 obtain ⟨ni,hni⟩:∃ n,ns[i]?=some n:=⟨_,List.getElem?_eq_getElem hi⟩
 have HNI:Hid (ns[i]?=some ni∧ni.kind=8):=⟨hni,by rw [←zd6 hni,hkk]⟩
 clear hni hkk hq ht ht1 ha hal hH
 go_enter Tryz.func26,Tryz.ntmps26
 go_wp2_with (first
  | (go_at_call 24;refine (zc7 _ ns i _ (HSN.out _ (Ok.refl _)) (by have:=HI.out;omega)).mono ?_;rintro e w1 ⟨rfl,hk1⟩;have HK1:Hid (Ok w w1):=hk1;have M1:=HN.out.below HK1.out;have lb1:=M1.lt;have c1:=(M1.get HNI.out.1).2.1;rw [HNI.out.2] at c1;rw [←HQ.out.1];clear M1 hk1)
  | (go_at_call 43;refine (zt2 _ ns i _ (HSN.out _ HK1.out) HI.out.1 HI.out.2).mono ?_;rintro e w2 ⟨hv,rfl,ho2,hk2⟩;have HK2:Hid (Ok w w2):=HK1.out.step hk2;rw [HHL.out] at ho2;obtain ⟨hg,hcap,rfl,_⟩:=ho2.form (by simp);have HO2:Hid (w2.ownsRow w1.heap.size 3 1 (.slice (some ⟨hg,0,none⟩) 2 hcap) 2 (inL [i+1,a])):=ho2;clear ho2 hk2)
  | (go_at_call 42;refine (zg3 _ ns HTR.out HI.out.2 i _ (HSN.out _ HK2.out) HI.out.1 HKD.out).mono ?_;rintro e w3 ⟨rfl,hk3⟩;have HK3:Hid (Ok w w3):=HK2.out.step hk3;have HO3:Hid (w3.ownsRow w1.heap.size 3 1 (.slice (some ⟨hg,0,none⟩) 2 hcap) 2 (inL [i+1,a])):=za1 HO2.out hk3;have lg3:=(HO3.out.lt hg rfl).2;rw [←HQ.out.2.1];clear hk3)
  | fail)
 have l4:=(HO3.out.lt hg rfl).2
 have k0:w3.drew.cell? ⟨hg,0,none⟩=some (.int .i64 ((i+1:Nat):Int)):=zj4 HO3.out 0 _ rfl
 have k1:w3.drew.cell? ⟨hg,1,none⟩=some (.int .i64 (a:Nat)):=zj4 HO3.out 1 _ rfl
 have K01:=And.intro k0 k1
 go_region_held3 (fun w'=>w'.cell? ⟨hg,0,none⟩=some (.int .i64 ((i+1:Nat):Int))∧w'.cell? ⟨hg,1,none⟩=some (.int .i64 (a:Nat)))
  (first | (with_reducible exact d01) | (with_reducible exact K01) | go_keep)
  (first
  | (go_at_call 44;refine (Calls.mono (zl8 _ ns HTR.out HI.out.2 a i _ (HSN.out _ (HK3.out.draws _)) HA.out.2 HA.out.1 HI.out.1 HKD.out) ?_);rintro e w5 ⟨rfl,hk5⟩;have HK5:Hid (Ok w w5):=(HK3.out.draws _).step hk5;have HO5:Hid (w5.ownsRow w1.heap.size 3 1 (.slice (some ⟨hg,0,none⟩) 2 hcap) 2 (inL [i+1,a])):=za1 HO3.out (Ok.step (by repeat (first | exact Ok.refl _ | refine Below.drew ?_)) hk5);have d01:=And.intro (zj4 HO5.out 0 _ rfl) (zj4 HO5.out 1 _ rfl);rw [←HQ.out.2.2];clear hk5)
  | fail)
 go_wp2_with fail
 go_ret
 exact ⟨_,rfl,SL.many w5 53 (edL [⟨(q:Nat),(t1:Nat),5,((i+1:Nat):Int),true,true⟩,⟨(q:Nat),(t:Nat),5,((i+1:Nat):Int),false,true⟩]) (by rfl) (by simp [edL,edV,Value.oneCell']),HK5.out.alloc _⟩
theorem zM5 (v:Value) (ns:List Nd) (hT:TreeOK ns) (hl:ns.length≤1000) (i:Nat) (w:World) (h:SNds w v ns) (hi:i<ns.length) (hk:2≤kdA ns i∧kdA ns i≤8) :
  Calls Tryz.prog 26 #[v,.int .i64 (i:Nat)] w fun e w'=>∃ lv,e=.returned lv∧SL w' 6 lv (elR ns i).length (edL (elR ns i))∧Ok w w':=by
 by_cases hc:kdA ns i=7∨kdA ns i=8
 ·obtain ⟨t1,t2,t3,t4,t5,t6⟩:=hT.two hi hc
  have hlo:=ze7 (ns:=ns) (p:=i+1)
  have hal:=(zc1 (ns:=ns) (p:=i) (q:=endF ns (i+1)) (by omega) t2).2
  have ha:=hd_of hT (i:=endF ns (i+1)) (g:=i) (by omega) t2 t3
  rcases ye2 hT hi hc with ⟨e1,e2⟩ | ⟨e1,e2⟩
  ·rcases hc with h7 | h8
   ·exact zV8 v ns hT hl i _ w h hi h7 e2 ha hal
   ·exact zW0 v ns hT hl i _ w h hi h8 e2 ha hal
  ·rcases t6 with e | ⟨q1,q2,q3,q4,q5⟩
   ·omega
   ·have hlo2:=ze7 (ns:=ns) (p:=endF ns (i+1))
    exact zV9 v ns hT hl i _ _ w h hi q1 e2 ha hal (hd_of hT (by omega) e1 q4) (zc1 (ns:=ns) (p:=i) (by omega) e1).2
 ·exact zB9 v ns hT hl i w h hi hk hc
end
end Go.Proofs.YtgobgdljckamkaaGreatDoor
