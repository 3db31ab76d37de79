import Derived.Test.YtenoopfeplalnaaGreatDoorKTg
set_option maxHeartbeats 8000000
set_option linter.all false
namespace Go.Proofs.YtenoopfeplalnaaGreatDoor
section
open Go.RowKit
theorem SL.many (w:World) (t:TypeId) (xs:List Value) {s n:Nat} (hs:xs.length=n*s) (h1:∀ u∈xs,u.oneCell'=true):SL (w.alloc (.cells xs.toArray t)) s (.slice (some ⟨w.heap.size,0,none⟩) n n) n xs:=by
 refine ⟨hs,h1,_,_,rfl,.inr ⟨_,_,rfl,by simp,fun j u hj=>?_⟩⟩
 have hlt:=(List.getElem?_eq_some_iff.1 hj).1
 have h0:(w.alloc (.cells xs.toArray t)).heap[w.heap.size]?=some (.cells xs.toArray t (0,0)):=heap_at _ _ _ (by simp)
 rw [Nat.zero_add]
 exact (cell_of_row _ _ j _ _ _ h0).trans (by simpa using hj)
set_option maxRecDepth 100000 in
theorem zH4 (v:Value) (ns:List Nd) (hT:TreeOK ns) (hl:ns.length<=1000) (i:Nat) (w:World) (h:SNds w v ns) (hi:i<ns.length) (hk:2<=kdA ns i/\kdA ns i<=8) (hc:¬(kdA ns i=7\/kdA ns i=8)) :
  Calls Tryz.prog 16 #[v,.int .i64 (i:Nat)] w fun e w'=>∃ lv,e=.returned lv/\SL w' 6 lv (elR ns i).length (edL (elR ns i))/\Ok w w':=by
 have HSN:Hid (∀ W,Ok w W->SNds W v ns):=fun W hW=>h.below hW
 obtain ⟨_,ao,cap,rfl,_,_,hN⟩:=h
 obtain ⟨b,o,rfl,N1⟩:=hN.resolve_left (fun e=>by rw [e] at hi;simp at hi)
 have HN:Hid (NodesAt w b o ns):=N1
 have HI:Hid (i<ns.length/\ns.length<=1000):=⟨hi,hl⟩
 have HTR:=hid hT
 have HKD:=hid hk
 clear N1 hN
 obtain ⟨k,hkk⟩:∃ x,x=kdA ns i:=⟨_,rfl⟩
 obtain ⟨q,hq⟩:∃ x,x=ptF ns i:=⟨_,rfl⟩
 obtain ⟨t,ht⟩:∃ x,x=BH ns i:=⟨_,rfl⟩
 have HQ:Hid (q=ptF ns i/\t=BH ns i):=⟨hq,ht⟩
 have HE:Hid (elR ns i=[⟨(q:Nat),(t:Nat),k-2,(i:Nat),false,false⟩]):=by
  unfold Hid elR;rw [if_neg hc,hq,ht,hkk]
 rw [HE.out]
 rw [<-hkk] at hc hk
 have h7:¬k=7:=fun e=>hc (.inl e)
 have h8:¬k=8:=fun e=>hc (.inr e)
 have h7d:decide (k=7)=false:=decide_eq_false h7
 have h8d:decide (k=8)=false:=decide_eq_false h8
 have h7b:(k != 7)=true:=by simpa using h7
 have h8b:(k != 8)=true:=by simpa using h8
 have h78b:(k != 7&&k != 8)=true:=by rw [h7b,h8b];rfl
 have hkw:IntKind.i64.wrap (k-2)=k-2:=by rw [IntKind.wrap_i64];omega
 have hkw2:wrap64 (k-2)=k-2:=by unfold wrap64;omega
 have hi2:(i:Int)<(ns.length:Int):=za6 hi
 obtain ⟨ni,hni⟩:∃ n,ns[i]?=some n:=⟨_,List.getElem?_eq_getElem hi⟩
 have HNI:Hid (ns[i]?=some ni/\ni.kind=k):=⟨hni,by rw [hkk,ze1 hni]⟩
 clear hni hkk hq ht hc
 go_enter Tryz.func16,Tryz.ntmps16
 go_wp2_with (first
  | (go_at_call 14;refine (zd4 _ ns i _ (HSN.out _ (Ok.refl _)) (by have:=HI.out;omega)).mono ?_;rintro e w1 ⟨rfl,hk1⟩;have HK1:Hid (Ok w w1):=hk1;have M1:=HN.out.below HK1.out;have lb1:=M1.lt;have c1:=(M1.get HNI.out.1).2.1;rw [HNI.out.2] at c1;rw [<-HQ.out.1];clear M1 hk1)
  | (go_at_call 26;refine (zg9 _ ns HTR.out HI.out.2 i _ (HSN.out _ HK1.out) HI.out.1 HKD.out).mono ?_;rintro e w2 ⟨rfl,hk2⟩;have HK2:Hid (Ok w w2):=HK1.out.step hk2;rw [<-HQ.out.2];clear hk2)
  | fail)
 go_ret
 exact ⟨_,rfl,SL.many w2 51 (edL [⟨(q:Nat),(t:Nat),k-2,(i:Nat),false,false⟩]) (by rfl) (by simp [edL,edV,Value.oneCell']),HK2.out.alloc _⟩
theorem zj7 {w:World} {B g cap:Nat} {n:Nat} {l:List Nat} (h:w.ownsRow B 3 1 (.slice (some ⟨g,0,none⟩) n cap) n (inL l)) (k x:Nat) (hk:l[k]?=some x):w.cell? ⟨g,k,none⟩=some (.int .i64 (x:Nat)):=by
 have:=h.cells (g:=g) rfl k _ (show (inL l)[k]?=some (.int .i64 (x:Nat)) by unfold inL;rw [List.getElem?_map,hk];rfl)
 rw [zc0,Nat.zero_add] at this
 exact this
set_option maxRecDepth 100000 in
theorem yj6 (v:Value) (ns:List Nd) (hT:TreeOK ns) (hl:ns.length<=1000) (i a:Nat) (w:World) (h:SNds w v ns) (hi:i<ns.length) (hkk:kdA ns i=7) (hH:hlF ns i=[i+1,a]) (ha:hdF ns a=(i:Int)) (hal:a<ns.length) :
  Calls Tryz.prog 16 #[v,.int .i64 (i:Nat)] w fun e w'=>∃ lv,e=.returned lv/\SL w' 6 lv (elR ns i).length (edL (elR ns i))/\Ok w w':=by
 have HSN:Hid (∀ W,Ok w W->SNds W v ns):=fun W hW=>h.below hW
 obtain ⟨_,ao,cap,rfl,_,_,hN⟩:=h
 obtain ⟨b,o,rfl,N1⟩:=hN.resolve_left (fun e=>by rw [e] at hi;simp at hi)
 have HN:Hid (NodesAt w b o ns):=N1
 have HI:Hid (i<ns.length/\ns.length<=1000):=⟨hi,hl⟩
 have HTR:=hid hT
 have HKD:Hid (2<=kdA ns i/\kdA ns i<=8):=by unfold Hid;omega
 have HHL:=hid hH
 clear N1 hN
 obtain ⟨q,hq⟩:∃ x,x=ptF ns i:=⟨_,rfl⟩
 obtain ⟨t,ht⟩:∃ x,x=BH ns i:=⟨_,rfl⟩
 obtain ⟨t1,ht1⟩:∃ x,x=BG ns a:=⟨_,rfl⟩
 have HQ:Hid (q=ptF ns i/\t=BH ns i/\t1=BG ns a):=⟨hq,ht,ht1⟩
 have HA:Hid (hdF ns a=(i:Int)/\a<ns.length):=⟨ha,hal⟩
 have HE:Hid (elR ns i=[⟨(q:Nat),(t1:Nat),5,((i+1:Nat):Int),true,false⟩,⟨(q:Nat),(t:Nat),5,((i+1:Nat):Int),false,false⟩]):=by
  unfold Hid elR;rw [if_pos (by omega),hH,hkk,hq,ht1,ht];rfl
 rw [HE.out]
 have hi2:(i:Int)<(ns.length:Int):=za6 hi
 obtain ⟨ni,hni⟩:∃ n,ns[i]?=some n:=⟨_,List.getElem?_eq_getElem hi⟩
 have HNI:Hid (ns[i]?=some ni/\ni.kind=7):=⟨hni,by rw [<-ze1 hni,hkk]⟩
 clear hni hkk hq ht ht1 ha hal hH
 go_enter Tryz.func16,Tryz.ntmps16
 go_wp2_with (first
  | (go_at_call 14;refine (zd4 _ ns i _ (HSN.out _ (Ok.refl _)) (by have:=HI.out;omega)).mono ?_;rintro e w1 ⟨rfl,hk1⟩;have HK1:Hid (Ok w w1):=hk1;have M1:=HN.out.below HK1.out;have lb1:=M1.lt;have c1:=(M1.get HNI.out.1).2.1;rw [HNI.out.2] at c1;rw [<-HQ.out.1];clear M1 hk1)
  | (go_at_call 27;refine (zv4 _ ns i _ (HSN.out _ HK1.out) HI.out.1 HI.out.2).mono ?_;rintro e w2 ⟨hv,rfl,ho2,hk2⟩;have HK2:Hid (Ok w w2):=HK1.out.step hk2;rw [HHL.out] at ho2;obtain ⟨hg,hcap,rfl,_⟩:=ho2.form (by simp);have HO2:Hid (w2.ownsRow w1.heap.size 3 1 (.slice (some ⟨hg,0,none⟩) 2 hcap) 2 (inL [i+1,a])):=ho2;clear ho2 hk2)
  | (go_at_call 26;refine (zg9 _ ns HTR.out HI.out.2 i _ (HSN.out _ HK2.out) HI.out.1 HKD.out).mono ?_;rintro e w3 ⟨rfl,hk3⟩;have HK3:Hid (Ok w w3):=HK2.out.step hk3;have HO3:Hid (w3.ownsRow w1.heap.size 3 1 (.slice (some ⟨hg,0,none⟩) 2 hcap) 2 (inL [i+1,a])):=za1 HO2.out hk3;have lg3:=(HO3.out.lt hg rfl).2;rw [<-HQ.out.2.1];clear hk3)
  | fail)
 have l4:=(HO3.out.lt hg rfl).2
 have k0:w3.drew.cell? ⟨hg,0,none⟩=some (.int .i64 ((i+1:Nat):Int)):=zj7 HO3.out 0 _ rfl
 have k1:w3.drew.cell? ⟨hg,1,none⟩=some (.int .i64 (a:Nat)):=zj7 HO3.out 1 _ rfl
 have K01:=And.intro k0 k1
 go_region_held3 (fun w'=>w'.cell? ⟨hg,0,none⟩=some (.int .i64 ((i+1:Nat):Int))/\w'.cell? ⟨hg,1,none⟩=some (.int .i64 (a:Nat)))
  (first | (with_reducible exact d01) | (with_reducible exact K01) | go_keep)
  (first
  | (go_at_call 28;refine (Calls.mono (zm9 _ ns HTR.out HI.out.2 a i _ (HSN.out _ (HK3.out.draws _)) HA.out.2 HA.out.1 HI.out.1 HKD.out) ?_);rintro e w5 ⟨rfl,hk5⟩;have HK5:Hid (Ok w w5):=(HK3.out.draws _).step hk5;have HO5:Hid (w5.ownsRow w1.heap.size 3 1 (.slice (some ⟨hg,0,none⟩) 2 hcap) 2 (inL [i+1,a])):=za1 HO3.out (Ok.step (by repeat (first | exact Ok.refl _ | refine Below.drew ?_)) hk5);have d01:=And.intro (zj7 HO5.out 0 _ rfl) (zj7 HO5.out 1 _ rfl);rw [<-HQ.out.2.2];clear hk5)
  | fail)
 go_wp2_with fail
 go_ret
 exact ⟨_,rfl,SL.many w5 51 (edL [⟨(q:Nat),(t1:Nat),5,((i+1:Nat):Int),true,false⟩,⟨(q:Nat),(t:Nat),5,((i+1:Nat):Int),false,false⟩]) (by rfl) (by simp [edL,edV,Value.oneCell']),HK5.out.alloc _⟩
set_option maxRecDepth 100000 in
theorem yj7 (v:Value) (ns:List Nd) (hT:TreeOK ns) (hl:ns.length<=1000) (i a s:Nat) (w:World) (h:SNds w v ns) (hi:i<ns.length) (hkk:kdA ns i=7) (hH:hlF ns i=[i+1,a,s]) (ha:hdF ns a=(i:Int)) (hal:a<ns.length) (hs:hdF ns s=(i:Int)) (hsl:s<ns.length) :
  Calls Tryz.prog 16 #[v,.int .i64 (i:Nat)] w fun e w'=>∃ lv,e=.returned lv/\SL w' 6 lv (elR ns i).length (edL (elR ns i))/\Ok w w':=by
 have HSN:Hid (∀ W,Ok w W->SNds W v ns):=fun W hW=>h.below hW
 obtain ⟨_,ao,cap,rfl,_,_,hN⟩:=h
 obtain ⟨b,o,rfl,N1⟩:=hN.resolve_left (fun e=>by rw [e] at hi;simp at hi)
 have HN:Hid (NodesAt w b o ns):=N1
 have HI:Hid (i<ns.length/\ns.length<=1000):=⟨hi,hl⟩
 have HTR:=hid hT
 have HKD:Hid (2<=kdA ns i/\kdA ns i<=8):=by unfold Hid;omega
 have HHL:=hid hH
 clear N1 hN
 obtain ⟨q,hq⟩:∃ x,x=ptF ns i:=⟨_,rfl⟩
 obtain ⟨t,ht⟩:∃ x,x=BH ns i:=⟨_,rfl⟩
 obtain ⟨t1,ht1⟩:∃ x,x=BG ns a:=⟨_,rfl⟩
 obtain ⟨s2,hs2⟩:∃ x,x=BG ns s:=⟨_,rfl⟩
 have HQ:Hid (q=ptF ns i/\t=BH ns i/\t1=BG ns a):=⟨hq,ht,ht1⟩
 have HA:Hid (hdF ns a=(i:Int)/\a<ns.length):=⟨ha,hal⟩
 have HS2:Hid (s2=BG ns s/\hdF ns s=(i:Int)/\s<ns.length):=⟨hs2,hs,hsl⟩
 have HE:Hid (elR ns i=[⟨(q:Nat),(t1:Nat),5,((i+1:Nat):Int),true,false⟩,⟨(q:Nat),(s2:Nat),5,((i+1:Nat):Int),false,false⟩]):=by
  unfold Hid elR;rw [if_pos (by omega),hH,hkk,hq,ht1,hs2];rfl
 rw [HE.out]
 have hi2:(i:Int)<(ns.length:Int):=za6 hi
 obtain ⟨ni,hni⟩:∃ n,ns[i]?=some n:=⟨_,List.getElem?_eq_getElem hi⟩
 have HNI:Hid (ns[i]?=some ni/\ni.kind=7):=⟨hni,by rw [<-ze1 hni,hkk]⟩
 clear hni hkk hq ht ht1 ha hal hH hs2 hs hsl
 go_enter Tryz.func16,Tryz.ntmps16
 go_wp2_with (first
  | (go_at_call 14;refine (zd4 _ ns i _ (HSN.out _ (Ok.refl _)) (by have:=HI.out;omega)).mono ?_;rintro e w1 ⟨rfl,hk1⟩;have HK1:Hid (Ok w w1):=hk1;have M1:=HN.out.below HK1.out;have lb1:=M1.lt;have c1:=(M1.get HNI.out.1).2.1;rw [HNI.out.2] at c1;rw [<-HQ.out.1];clear M1 hk1)
  | (go_at_call 27;refine (zv4 _ ns i _ (HSN.out _ HK1.out) HI.out.1 HI.out.2).mono ?_;rintro e w2 ⟨hv,rfl,ho2,hk2⟩;have HK2:Hid (Ok w w2):=HK1.out.step hk2;rw [HHL.out] at ho2;obtain ⟨hg,hcap,rfl,_⟩:=ho2.form (by simp);have HO2:Hid (w2.ownsRow w1.heap.size 3 1 (.slice (some ⟨hg,0,none⟩) 3 hcap) 3 (inL [i+1,a,s])):=ho2;clear ho2 hk2)
  | (go_at_call 26;refine (zg9 _ ns HTR.out HI.out.2 i _ (HSN.out _ HK2.out) HI.out.1 HKD.out).mono ?_;rintro e w3 ⟨rfl,hk3⟩;have HK3:Hid (Ok w w3):=HK2.out.step hk3;have HO3:Hid (w3.ownsRow w1.heap.size 3 1 (.slice (some ⟨hg,0,none⟩) 3 hcap) 3 (inL [i+1,a,s])):=za1 HO2.out hk3;have lg3:=(HO3.out.lt hg rfl).2;have d2:=zj7 HO3.out 2 _ rfl;rw [<-HQ.out.2.1];clear hk3)
  | (go_at_call 28;refine (zm9 _ ns HTR.out HI.out.2 s i _ (HSN.out _ HK3.out) HS2.out.2.2 HS2.out.2.1 HI.out.1 HKD.out).mono ?_;rintro e w4 ⟨rfl,hk4⟩;have HK4:Hid (Ok w w4):=HK3.out.step hk4;have HO4:Hid (w4.ownsRow w1.heap.size 3 1 (.slice (some ⟨hg,0,none⟩) 3 hcap) 3 (inL [i+1,a,s])):=za1 HO3.out hk4;rw [<-HS2.out.1];clear hk4)
  | fail)
 have l4:=(HO4.out.lt hg rfl).2
 have k0:w4.drew.cell? ⟨hg,0,none⟩=some (.int .i64 ((i+1:Nat):Int)):=zj7 HO4.out 0 _ rfl
 have k1:w4.drew.cell? ⟨hg,1,none⟩=some (.int .i64 (a:Nat)):=zj7 HO4.out 1 _ rfl
 have K01:=And.intro k0 k1
 go_region_held3 (fun w'=>w'.cell? ⟨hg,0,none⟩=some (.int .i64 ((i+1:Nat):Int))/\w'.cell? ⟨hg,1,none⟩=some (.int .i64 (a:Nat)))
  (first | (with_reducible exact d01) | (with_reducible exact K01) | go_keep)
  (first
  | (go_at_call 28;refine (Calls.mono (zm9 _ ns HTR.out HI.out.2 a i _ (HSN.out _ (HK4.out.draws _)) HA.out.2 HA.out.1 HI.out.1 HKD.out) ?_);rintro e w5 ⟨rfl,hk5⟩;have HK5:Hid (Ok w w5):=(HK4.out.draws _).step hk5;have HO5:Hid (w5.ownsRow w1.heap.size 3 1 (.slice (some ⟨hg,0,none⟩) 3 hcap) 3 (inL [i+1,a,s])):=za1 HO4.out (Ok.step (by repeat (first | exact Ok.refl _ | refine Below.drew ?_)) hk5);have d01:=And.intro (zj7 HO5.out 0 _ rfl) (zj7 HO5.out 1 _ rfl);rw [<-HQ.out.2.2];clear hk5)
  | fail)
 go_wp2_with fail
 go_ret
 exact ⟨_,rfl,SL.many w5 51 (edL [⟨(q:Nat),(t1:Nat),5,((i+1:Nat):Int),true,false⟩,⟨(q:Nat),(s2:Nat),5,((i+1:Nat):Int),false,false⟩]) (by rfl) (by simp [edL,edV,Value.oneCell']),HK5.out.alloc _⟩
set_option maxRecDepth 100000 in
theorem yj8 (v:Value) (ns:List Nd) (hT:TreeOK ns) (hl:ns.length<=1000) (i a:Nat) (w:World) (h:SNds w v ns) (hi:i<ns.length) (hkk:kdA ns i=8) (hH:hlF ns i=[i+1,a]) (ha:hdF ns a=(i:Int)) (hal:a<ns.length) :
  Calls Tryz.prog 16 #[v,.int .i64 (i:Nat)] w fun e w'=>∃ lv,e=.returned lv/\SL w' 6 lv (elR ns i).length (edL (elR ns i))/\Ok w w':=by
 have HSN:Hid (∀ W,Ok w W->SNds W v ns):=fun W hW=>h.below hW
 obtain ⟨_,ao,cap,rfl,_,_,hN⟩:=h
 obtain ⟨b,o,rfl,N1⟩:=hN.resolve_left (fun e=>by rw [e] at hi;simp at hi)
 have HN:Hid (NodesAt w b o ns):=N1
 have HI:Hid (i<ns.length/\ns.length<=1000):=⟨hi,hl⟩
 have HTR:=hid hT
 have HKD:Hid (2<=kdA ns i/\kdA ns i<=8):=by unfold Hid;omega
 have HHL:=hid hH
 clear N1 hN
 obtain ⟨q,hq⟩:∃ x,x=ptF ns i:=⟨_,rfl⟩
 obtain ⟨t,ht⟩:∃ x,x=BH ns i:=⟨_,rfl⟩
 obtain ⟨t1,ht1⟩:∃ x,x=BG ns a:=⟨_,rfl⟩
 have HQ:Hid (q=ptF ns i/\t=BH ns i/\t1=BG ns a):=⟨hq,ht,ht1⟩
 have HA:Hid (hdF ns a=(i:Int)/\a<ns.length):=⟨ha,hal⟩
 have HE:Hid (elR ns i=[⟨(q:Nat),(t1:Nat),5,((i+1:Nat):Int),true,true⟩,⟨(q:Nat),(t:Nat),5,((i+1:Nat):Int),false,true⟩]):=by
  unfold Hid elR;rw [if_pos (by omega),hH,hkk,hq,ht1,ht];rfl
 rw [HE.out]
 have hi2:(i:Int)<(ns.length:Int):=za6 hi
 obtain ⟨ni,hni⟩:∃ n,ns[i]?=some n:=⟨_,List.getElem?_eq_getElem hi⟩
 have HNI:Hid (ns[i]?=some ni/\ni.kind=8):=⟨hni,by rw [<-ze1 hni,hkk]⟩
 clear hni hkk hq ht ht1 ha hal hH
 go_enter Tryz.func16,Tryz.ntmps16
 go_wp2_with (first
  | (go_at_call 14;refine (zd4 _ ns i _ (HSN.out _ (Ok.refl _)) (by have:=HI.out;omega)).mono ?_;rintro e w1 ⟨rfl,hk1⟩;have HK1:Hid (Ok w w1):=hk1;have M1:=HN.out.below HK1.out;have lb1:=M1.lt;have c1:=(M1.get HNI.out.1).2.1;rw [HNI.out.2] at c1;rw [<-HQ.out.1];clear M1 hk1)
  | (go_at_call 27;refine (zv4 _ ns i _ (HSN.out _ HK1.out) HI.out.1 HI.out.2).mono ?_;rintro e w2 ⟨hv,rfl,ho2,hk2⟩;have HK2:Hid (Ok w w2):=HK1.out.step hk2;rw [HHL.out] at ho2;obtain ⟨hg,hcap,rfl,_⟩:=ho2.form (by simp);have HO2:Hid (w2.ownsRow w1.heap.size 3 1 (.slice (some ⟨hg,0,none⟩) 2 hcap) 2 (inL [i+1,a])):=ho2;clear ho2 hk2)
  | (go_at_call 26;refine (zg9 _ ns HTR.out HI.out.2 i _ (HSN.out _ HK2.out) HI.out.1 HKD.out).mono ?_;rintro e w3 ⟨rfl,hk3⟩;have HK3:Hid (Ok w w3):=HK2.out.step hk3;have HO3:Hid (w3.ownsRow w1.heap.size 3 1 (.slice (some ⟨hg,0,none⟩) 2 hcap) 2 (inL [i+1,a])):=za1 HO2.out hk3;have lg3:=(HO3.out.lt hg rfl).2;rw [<-HQ.out.2.1];clear hk3)
  | fail)
 have l4:=(HO3.out.lt hg rfl).2
 have k0:w3.drew.cell? ⟨hg,0,none⟩=some (.int .i64 ((i+1:Nat):Int)):=zj7 HO3.out 0 _ rfl
 have k1:w3.drew.cell? ⟨hg,1,none⟩=some (.int .i64 (a:Nat)):=zj7 HO3.out 1 _ rfl
 have K01:=And.intro k0 k1
 go_region_held3 (fun w'=>w'.cell? ⟨hg,0,none⟩=some (.int .i64 ((i+1:Nat):Int))/\w'.cell? ⟨hg,1,none⟩=some (.int .i64 (a:Nat)))
  (first | (with_reducible exact d01) | (with_reducible exact K01) | go_keep)
  (first
  | (go_at_call 28;refine (Calls.mono (zm9 _ ns HTR.out HI.out.2 a i _ (HSN.out _ (HK3.out.draws _)) HA.out.2 HA.out.1 HI.out.1 HKD.out) ?_);rintro e w5 ⟨rfl,hk5⟩;have HK5:Hid (Ok w w5):=(HK3.out.draws _).step hk5;have HO5:Hid (w5.ownsRow w1.heap.size 3 1 (.slice (some ⟨hg,0,none⟩) 2 hcap) 2 (inL [i+1,a])):=za1 HO3.out (Ok.step (by repeat (first | exact Ok.refl _ | refine Below.drew ?_)) hk5);have d01:=And.intro (zj7 HO5.out 0 _ rfl) (zj7 HO5.out 1 _ rfl);rw [<-HQ.out.2.2];clear hk5)
  | fail)
 go_wp2_with fail
 go_ret
 exact ⟨_,rfl,SL.many w5 51 (edL [⟨(q:Nat),(t1:Nat),5,((i+1:Nat):Int),true,true⟩,⟨(q:Nat),(t:Nat),5,((i+1:Nat):Int),false,true⟩]) (by rfl) (by simp [edL,edV,Value.oneCell']),HK5.out.alloc _⟩
theorem zV2 (v:Value) (ns:List Nd) (hT:TreeOK ns) (hl:ns.length<=1000) (i:Nat) (w:World) (h:SNds w v ns) (hi:i<ns.length) (hk:2<=kdA ns i/\kdA ns i<=8) :
  Calls Tryz.prog 16 #[v,.int .i64 (i:Nat)] w fun e w'=>∃ lv,e=.returned lv/\SL w' 6 lv (elR ns i).length (edL (elR ns i))/\Ok w w':=by
 by_cases hc:kdA ns i=7\/kdA ns i=8
 ·obtain ⟨t1,t2,t3,t4,t5,t6⟩:=hT.two hi hc
  have hlo:=ze8 (ns:=ns) (p:=i+1)
  have hal:=(zc2 (ns:=ns) (p:=i) (q:=endF ns (i+1)) (by omega) t2).2
  have ha:=hd_of hT (i:=endF ns (i+1)) (g:=i) (by omega) t2 t3
  rcases yu7 hT hi hc with ⟨e1,e2⟩ | ⟨e1,e2⟩
  ·rcases hc with h7 | h8
   ·exact yj6 v ns hT hl i _ w h hi h7 e2 ha hal
   ·exact yj8 v ns hT hl i _ w h hi h8 e2 ha hal
  ·rcases t6 with e | ⟨q1,q2,q3,q4,q5⟩
   ·omega
   ·have hlo2:=ze8 (ns:=ns) (p:=endF ns (i+1))
    exact yj7 v ns hT hl i _ _ w h hi q1 e2 ha hal (hd_of hT (by omega) e1 q4) (zc2 (ns:=ns) (p:=i) (by omega) e1).2
 ·exact zH4 v ns hT hl i w h hi hk hc
end
section
open Go.RowKit
set_option maxRecDepth 100000 in
theorem zM7 (v0 v1 v2 v3 v4 v5:Value) (ns:List Nd) (l:Ls) (w:World) (h:ProgIs w v0 v1 v2 v3 v4 v5 ns l) (hg:goodD ns l=true) :
  Calls Tryz.prog 8 #[.agg #[v0,v1,v2,v3,v4,v5]] w fun e w'=>∃ ev:Value,e=.returned (.tuple #[.agg #[v0,v1,v2,v3,v4,v5,.int .i64 ((ptF ns ns.length+1:Nat):Int),.int .i64 (ptF ns ns.length:Nat),ev],.int .i64 0])/\w'.ownsRow w.heap.size 51 6 ev (elF ns).length (edL (elF ns))/\Ok w w':=by
 have h0:=zv1 hg
 have HT:Hid (TreeOK ns):=zM4 (zq0 h0)
 have HLN:Hid (ns.length<=300):=(zj0 ns h0).2
 have HG:=hid hg
 have HP:=hid h
 obtain ⟨_,x0,y0,rfl,_⟩:=h.nodes
 obtain ⟨_,_,x1,y1,rfl,_⟩:=h.lists.sc.sl
 obtain ⟨_,_,x2,y2,rfl,_⟩:=h.lists.ar.sl
 obtain ⟨_,_,x3,y3,rfl,_⟩:=h.lists.sy.sl
 obtain ⟨_,_,x4,y4,rfl,_⟩:=h.lists.si.sl
 obtain ⟨_,_,x5,y5,rfl,_⟩:=h.lists.so.sl
 clear h0 hg h
 obtain ⟨pn,hpn⟩:∃ x,x=ptF ns ns.length:=⟨_,rfl⟩
 have HPN:Hid (pn=ptF ns ns.length/\pn<=300):=⟨hpn,by rw [hpn];exact Nat.le_trans (zq5 _ _) HLN.out⟩
 have hpw:IntKind.i64.wrap ((pn:Int)+1)=((pn+1:Nat):Int):=zb6 (by have:=HPN.out;omega)
 rw [<-hpn]
 clear hpn
 go_enter Tryz.func8,Tryz.ntmps8
 go_wp2_with fail
 obtain ⟨w0,hw0⟩:∃ x,x=(w.alloc (Obj.cells #[.slice x0 ns.length y0,.slice x1 l.sc.length y1,.slice x2 l.ar.length y2,.slice x3 l.sy.length y3,.slice x4 l.si.length y4,.slice x5 l.so.length y5] 30)).alloc (Obj.cells #[.slice none 0 0,.slice none 0 0,.slice none 0 0,.slice none 0 0,.slice none 0 0,.slice none 0 0,.int .i64 0,.int .i64 0,.slice none 0 0] 46):=⟨_,rfl⟩
 obtain ⟨b1,hb1⟩:∃ x,x=w.heap.size+1:=⟨_,rfl⟩
 obtain ⟨b0,hb0⟩:∃ x,x=w.heap.size:=⟨_,rfl⟩
 rw [<-hw0,<-hb1,<-hb0]
 have HK0:Hid (Ok w w0):=by unfold Hid;rw [hw0];exact ((Ok.refl w).alloc _).alloc _
 have HX0:Hid (Six w0 b0 (.slice x0 ns.length y0) (.slice x1 l.sc.length y1) (.slice x2 l.ar.length y2) (.slice x3 l.sy.length y3) (.slice x4 l.si.length y4) (.slice x5 l.so.length y5)):=by unfold Hid;rw [hw0,hb0];exact (Six.new w _ _ _ _ _ _).below ((Ok.refl _).alloc _)
 have HG0:Hid (w0.heap[b1]?=some (.cells #[Value.slice none 0 0,Value.slice none 0 0,Value.slice none 0 0,Value.slice none 0 0,Value.slice none 0 0,Value.slice none 0 0,Value.int IntKind.i64 0,Value.int IntKind.i64 0,Value.slice none 0 0] 46 (0,0))):=by unfold Hid;rw [hw0,hb1];exact heap_at _ _ _ (by simp)
 have HB:Hid (b0=w.heap.size/\b1=w.heap.size+1):=⟨hb0,hb1⟩
 clear hw0 hb1 hb0
 refine (yh7 _ _ _ _ _ _ ns l w0 (HP.out.below HK0.out)).mono ?_
 rintro e w1 ⟨rfl,hk1⟩
 rw [HG.out]
 have HK1:Hid (Ok w w1):=HK0.out.step hk1
 have HX1:Hid (Six w1 b0 (.slice x0 ns.length y0) (.slice x1 l.sc.length y1) (.slice x2 l.ar.length y2) (.slice x3 l.sy.length y3) (.slice x4 l.si.length y4) (.slice x5 l.so.length y5)):=HX0.out.below hk1
 have HG1:Hid (w1.heap[b1]?=some (.cells #[Value.slice none 0 0,Value.slice none 0 0,Value.slice none 0 0,Value.slice none 0 0,Value.slice none 0 0,Value.slice none 0 0,Value.int IntKind.i64 0,Value.int IntKind.i64 0,Value.slice none 0 0] 46 (0,0))):=Ok.row' hk1 HG0.out
 clear hk1 HG0 HX0
 obtain ⟨z1,c0,c1,c2,c3,c4,c5⟩:=HX1.out.pc
 go_wp2_with fail
 refine (zd4 _ ns ns.length _ ((HP.out.below HK1.out).nodes) (by have:=HLN.out;omega)).mono ?_
 rintro e w2 ⟨rfl,hk2⟩
 rw [<-HPN.out.1]
 have HK2:Hid (Ok w w2):=HK1.out.step hk2
 have HX2:Hid (Six w2 b0 (.slice x0 ns.length y0) (.slice x1 l.sc.length y1) (.slice x2 l.ar.length y2) (.slice x3 l.sy.length y3) (.slice x4 l.si.length y4) (.slice x5 l.so.length y5)):=HX1.out.below hk2
 have HG2:Hid (w2.heap[b1]?=some (.cells #[Value.slice none 0 0,Value.slice none 0 0,Value.slice none 0 0,Value.slice none 0 0,Value.slice none 0 0,Value.slice none 0 0,Value.int IntKind.i64 0,Value.int IntKind.i64 0,Value.slice none 0 0] 46 (0,0))):=Ok.row' hk2 HG1.out
 clear hk2 HG1 HX1 z1 c0 c1 c2 c3 c4 c5
 obtain ⟨z1,c0,c1,c2,c3,c4,c5⟩:=HX2.out.pc
 go_wp2_with fail
 obtain ⟨bg,hbg⟩:∃ x,x=w2.heap.size:=⟨_,rfl⟩
 obtain ⟨W,hW⟩:∃ x,x=w2.alloc (Obj.cells #[.slice x0 ns.length y0,.slice x1 l.sc.length y1,.slice x2 l.ar.length y2,.slice x3 l.sy.length y3,.slice x4 l.si.length y4,.slice x5 l.so.length y5,.int .i64 ((pn:Int)+1),.int .i64 (pn:Nat),.slice none 0 0] 46):=⟨_,rfl⟩
 rw [<-hW,<-hbg]
 have HBG:Hid (bg=w2.heap.size/\b1<bg/\b0<bg):=⟨hbg,by rw [hbg];exact za2 HG2.out,by have h1:=za2 HG2.out;have h2:=HB.out;omega⟩
 have HWK:Hid (Ok w2 W):=by unfold Hid;rw [hW];exact (Ok.refl _).alloc _
 have HWG:Hid (W.heap[bg]?=some (.cells #[Value.slice x0 ns.length y0,Value.slice x1 l.sc.length y1,Value.slice x2 l.ar.length y2,Value.slice x3 l.sy.length y3,Value.slice x4 l.si.length y4,Value.slice x5 l.so.length y5,Value.int IntKind.i64 ((pn:Int)+1),Value.int IntKind.i64 (pn:Nat),Value.slice none 0 0] 46 (0,0))):=by unfold Hid;rw [hW,hbg];exact za4 _ _
 clear hW hbg z1 c0 c1 c2 c3 c4 c5 hpw
 go_loopw [6] (fun i wr=>∃ (k:Nat) (ev:Value),i=.int .i64 (k:Nat)/\k<=ns.length/\Hid (wr.heap[bg]?=some (.cells #[Value.slice x0 ns.length y0,Value.slice x1 l.sc.length y1,Value.slice x2 l.ar.length y2,Value.slice x3 l.sy.length y3,Value.slice x4 l.si.length y4,Value.slice x5 l.so.length y5,Value.int IntKind.i64 ((pn:Int)+1),Value.int IntKind.i64 (pn:Nat),ev] 46 (0,0)))/\Hid (wr.ownsRow (bg+1) 51 6 ev (rgE ns 0 k).length (edL (rgE ns 0 k)))/\Hid ((rgE ns 0 k).length<=2*k)/\Hid (Ok w2 wr)) (fun i _=>ns.length-(intOf i).toNat)
 case atStart=>exact ⟨0,_,rfl,Nat.zero_le _,HWG.out,World.ownsRow_nil _ _ _ _,Nat.zero_le _,HWK.out⟩
 case round =>
  obtain ⟨k,ev,rfl,hk,HGB,HOW,HLE,HKR⟩:=hrel
  obtain ⟨es,hes⟩:∃ x,x=rgE ns 0 k:=⟨_,rfl⟩
  have HES:Hid (es=rgE ns 0 k):=hes
  rw [<-hes] at HOW HLE
  clear hes
  obtain ⟨eo,ec,rfl⟩:=za0 HOW.out
  obtain ⟨m,hm⟩:∃ x,x=es.length:=⟨_,rfl⟩
  have HM:Hid (m=es.length):=hm
  rw [<-hm] at HGB HOW HLE
  clear hm
  obtain ⟨z1,c0,c1,c2,c3,c4,c5⟩:=(HX2.out.below HKR.out).pc
  by_cases hkl:k<ns.length
  ·have hkl':(k:Int)<(ns.length:Int):=za6 hkl
   have hkw:IntKind.i64.wrap ((k:Int)+1)=((k+1:Nat):Int):=zb6 (by have:=HLN.out;omega)
   obtain ⟨n,hn⟩:∃ n,ns[k]?=some n:=⟨_,List.getElem?_eq_getElem hkl⟩
   obtain ⟨_,ao',cap',e1,_,_,hN⟩:=((HP.out.below HK2.out).below HKR.out).nodes
   injection e1 with e1 e2 e3;clear e2
   subst e1 e3
   obtain ⟨b,o,rfl,M1⟩:=hN.resolve_left (fun e=>by rw [e] at hkl;simp at hkl)
   obtain ⟨n0,n1,n2,n3,n4,n5⟩:=M1.get hn
   have lb:=M1.lt
   have HKDN:Hid (kdA ns k=n.kind):=ze1 hn
   obtain ⟨nd,nk,nm,nu,no,nps⟩:=n
   simp only at n0 n1 n2 n3 n4 n5 HKDN
   have HKL:Hid (k<ns.length):=hkl
   clear hn M1 hN
   by_cases hs:2<=nk/\nk<=8
   ·have HS:Hid ((decide (2<=nk)&&decide (nk<=8))=true):=by unfold Hid;rw [decide_eq_true hs.1,decide_eq_true hs.2];rfl
    have HKK:Hid (2<=kdA ns k/\kdA ns k<=8):=by unfold Hid;rw [HKDN.out];exact hs
    have HSUC:Hid (rgE ns 0 (k+1)=es++elR ns k):=by unfold Hid;rw [HES.out,zg6 (x:=k) (by omega) (by omega),zM6 HKK.out]
    clear hs
    go_wp2_with (first
     | (go_at_call 15;refine (zp0 _ _ _ _ _ _ _).mono ?_;rintro e w3 ⟨rfl,hk3⟩;have HK3:Hid (Ok wr w3):=hk3;rw [HS.out];clear hk3)
     | fail)
    have HR3:Hid (Ok w2 w3):=HKR.out.step HK3.out
    have HG3:Hid _:=Ok.row' HK3.out HGB.out
    have HO3:Hid (w3.ownsRow (bg+1) 51 6 (.slice eo m ec) m (edL es)):=za1 HOW.out HK3.out
    obtain ⟨q1,d0,d1,d2,d3,d4,d5⟩:=(HX2.out.below HR3.out).pc
    have HSS:Hid (∀ X,Ok w3 X->X.cell? ⟨bg,8,none⟩=some (.slice eo m ec)/\X.cell? ⟨b0,0,none⟩=some (.slice (some ⟨b,o,none⟩) ns.length y0)):=fun X hX=>⟨(cell_of_row _ _ 8 _ _ _ (Ok.row' hX HG3.out)).trans (by simp),(HX2.out.below (HR3.out.step hX)).pc.c0⟩
    clear z1 c0 c1 c2 c3 c4 c5 n0 n1 n2 n3 n4 n5 lb
    have S0:=HSS.out w3.drew (Below.drew (Ok.refl _))
    refine zf9 (fun w'=>w'.cell? ⟨bg,8,none⟩=some (.slice eo m ec)/\w'.cell? ⟨b0,0,none⟩=some (.slice (some ⟨b,o,none⟩) ns.length y0)) 8 (by kernel_rfl) ?_
    refine za3 (i:=0) (v:=.pointer (some ⟨bg,8,none⟩)) rfl (by kernel_rfl) (by kernel_rfl) (by kernel_rfl) (by kernel_rfl) (fun _ _ _ h=>h) S0 (Or.inl ⟨by rfl,?_⟩) ?_
    ·intro w' hSw;obtain ⟨s0,s1⟩:=hSw;go_simp;try with_reducible rfl
    simp only [pu]
    refine za3 (i:=1) (v:=.slice eo m ec) rfl (by kernel_rfl) (by kernel_rfl) (by kernel_rfl) (by kernel_rfl) (fun _ _ _ h=>h) S0 (Or.inl ⟨by rfl,?_⟩) ?_
    ·intro w' hSw;obtain ⟨s0,s1⟩:=hSw;go_simp;try with_reducible rfl
    simp only [pu]
    refine za3 (i:=2) (v:=.pointer (some ⟨b0,0,none⟩)) rfl (by kernel_rfl) (by kernel_rfl) (by kernel_rfl) (by kernel_rfl) (fun _ _ _ h=>h) S0 (Or.inl ⟨by rfl,?_⟩) ?_
    ·intro w' hSw;obtain ⟨s0,s1⟩:=hSw;go_simp;try with_reducible rfl
    simp only [pu]
    refine za3 (i:=3) (v:=.slice (some ⟨b,o,none⟩) ns.length y0) rfl (by kernel_rfl) (by kernel_rfl) (by kernel_rfl) (by kernel_rfl) (fun _ _ _ h=>h) S0 (Or.inl ⟨by rfl,?_⟩) ?_
    ·intro w' hSw;obtain ⟨s0,s1⟩:=hSw;go_simp;try with_reducible rfl
    simp only [pu]
    refine za3 (i:=4) (v:=.int .i64 (k:Nat)) rfl (by kernel_rfl) (by kernel_rfl) (by kernel_rfl) (by kernel_rfl) (fun _ _ _ h=>h) S0 (Or.inl ⟨by rfl,?_⟩) ?_
    ·intro w' hSw;obtain ⟨s0,s1⟩:=hSw;go_simp;try with_reducible rfl
    simp only [pu]
    refine zb0 (i:=5) (by kernel_rfl) rfl (fun K hK=>?_)
    go_simp
    refine (zV2 _ ns HT.out (by have:=HLN.out;omega) k _ (((HP.out.below HK2.out).below (HR3.out.step (Below.drew (Ok.refl _)))).nodes) HKL.out HKK.out).mono ?_
    rintro e w4 ⟨lv,rfl,hsl,hk4'⟩
    have hk4:Ok w3 w4:=Ok.step (Below.drew (Ok.refl _)) hk4'
    obtain ⟨hl1,hl2,lo,lc,rfl,hl3⟩:=hsl
    have hne:0<(elR ns k).length:=by unfold elR;split<;>simp
    have hne2:(elR ns k).length<=2:=by unfold elR;split<;>simp
    obtain ⟨gb,go,rfl,hgl,hcs⟩:=hl3.resolve_left (by omega)
    go_wp2_with fail
    refine hK.out _ _ (fun _=>HSS.out w4 hk4) ?_
    clear hK K
    obtain ⟨i0,hi0,hy0,hy1,hy2⟩:=zg8 infEd
    have HK4:Hid (Ok w3 w4):=hk4
    have HO4:Hid (w4.ownsRow (bg+1) 51 6 (.slice eo m ec) m (edL es)):=za1 HO3.out hk4
    have HG4:Hid _:=Ok.row' hk4 HG3.out
    have HML:Hid (m<=2*300):=by have h1:=HLE.out;have h2:=HLN.out;unfold Hid;omega
    obtain ⟨nn,hnn⟩:∃ x,x=(elR ns k).length:=⟨_,rfl⟩
    have HNN:Hid (nn=(elR ns k).length/\0<nn/\nn<=2):=⟨hnn,by omega,by omega⟩
    have HNL:Hid ((edL (elR ns k)).length=nn*6):=by unfold Hid;rw [hnn];exact hl1
    have HN1:Hid (∀ u∈edL (elR ns k),u.oneCell'=true):=hl2
    have HCS:Hid (∀ j u,(edL (elR ns k))[j]?=some u->w4.cell? ((⟨gb,go,none⟩:Addr).add j)=some u):=fun j u hj=>by rw [zc0];exact hcs j u hj
    rw [<-hnn]
    clear hk4 hk4' hl1 hl2 hl3 hcs hne hne2 hnn S0
    refine zb0 (i:=6) (by kernel_rfl) rfl (fun K hK=>?_)
    refine step_append_lies w4 (by rfl) _ _ _ (by rfl) (bg+1) 51 i0 _ 6 40 Tryz.underlying44 hi0 hy0 hy1 hy2 rfl (by decide) (.slice eo m ec) m (edL es) (by rfl) HO4.out ⟨gb,go,none⟩ nn lc (edL (elR ns k)) (by rfl) HNL.out HCS.out HN1.out HNN.out.2.1 (by have h1:=HML.out;have h2:=HNN.out;unfold maxLen;omega) (by have h1:=HML.out;have h2:=HNN.out;omega) (by have:=za2 HG4.out;omega) w4.heap.size rfl ?_
    intro gg capg w5 hown hgrow hat hlt
    have HG5:Hid _:=(show w5.heap[bg]?=_ from (hgrow.block bg (za2 HG4.out) (fun e=>by have:=(HO4.out.lt bg e.symm).1;omega)).trans HG4.out)
    have HR5:Hid (Ok w2 w5):=(HR3.out.step HK4.out).grown hgrow (fun b e=>by have h1:=(HO4.out.lt b e).1;have h2:=HBG.out;omega)
    have HO5:Hid (w5.ownsRow (bg+1) 51 6 (.slice (some ⟨gg,0,none⟩) (m+nn) capg) (m+nn) (edL es++edL (elR ns k))):=hown
    have S5:w5.cell? ⟨bg,8,none⟩=some (.slice eo m ec)/\w5.cell? ⟨b0,0,none⟩=some (.slice (some ⟨b,o,none⟩) ns.length y0):=⟨(cell_of_row _ _ 8 _ _ _ HG5.out).trans (by simp),(HX2.out.below HR5.out).pc.c0⟩
    refine hK.out _ _ (fun _=>S5) ?_
    clear hK K hown hgrow hat hlt
    simp only [pu]
    refine za3 (i:=7) (v:=.pointer (some ⟨bg,8,none⟩)) rfl (by kernel_rfl) (by kernel_rfl) (by kernel_rfl) (by kernel_rfl) (fun _ _ _ h=>h) S5 (Or.inl ⟨by rfl,?_⟩) ?_
    ·intro w' hSw;obtain ⟨s0,s1⟩:=hSw;go_simp;try with_reducible rfl
    simp only [pu]
    have f5:w5.frozen? ⟨bg,8,none⟩=false:=frozen_of_row _ _ _ _ _ HG5.out
    have l5:=za2 HG5.out
    have e5:=S5.1
    refine zb0 (i:=8) (by kernel_rfl) rfl (fun K hK=>?_)
    go_simp
    refine hK.out _ _ (fun h=>absurd rfl h) ?_
    clear hK K
    refine zf8 (by kernel_rfl) ?_ _
    go_wp2_with fail
    go_roundw
    case rel=>exact ⟨k+1,_,rfl,hkl,by have:=heap_setCell_same w5 bg 8 _ 46 (.slice (some ⟨gg,0,none⟩) (m+nn) capg) HG5.out;unfold Hid;simpa using this,by have:=HO5.out;unfold Hid;rw [HSUC.out,List.length_append,<-HM.out,<-HNN.out.1,yi6];exact zn4 this (by omega) _,by unfold Hid;rw [HSUC.out,List.length_append,<-HM.out,<-HNN.out.1];have h1:=HLE.out;have h2:=HNN.out;omega,Below.setCell (p:=⟨bg,8,none⟩) HR5.out (by have:=HBG.out;show w2.heap.size<=bg;omega) _⟩
    case measure=>simp only [intOf,Int.toNat_natCast];omega
   ·have HS:Hid ((decide (2<=nk)&&decide (nk<=8))=false):=by
     unfold Hid
     by_cases h2:2<=nk
     ·rw [decide_eq_false (show ¬nk<=8 from fun h8=>hs ⟨h2,h8⟩),Bool.and_false]
     ·rw [decide_eq_false h2];rfl
    have HSUC:Hid (rgE ns 0 (k+1)=es):=by unfold Hid;rw [HES.out,zg6 (x:=k) (by omega) (by omega),zk7 (p:=k) (fun r r1 r2=>by rw [show r=k by omega,HKDN.out];exact hs),List.append_nil]
    clear hs
    go_wp2_with (first
     | (go_at_call 15;refine (zp0 _ _ _ _ _ _ _).mono ?_;rintro e w3 ⟨rfl,hk3⟩;have HK3:Hid (Ok wr w3):=hk3;rw [HS.out];clear hk3)
     | fail)
    go_roundw
    case rel=>exact ⟨k+1,_,rfl,hkl,Ok.row' HK3.out HGB.out,by unfold Hid;rw [HSUC.out,<-HM.out];exact za1 HOW.out HK3.out,by unfold Hid;rw [HSUC.out,<-HM.out];have:=HLE.out;omega,HKR.out.step HK3.out⟩
    case measure=>simp only [intOf,Int.toNat_natCast];omega
  ·have hkl':¬(k:Int)<(ns.length:Int):=zb3 hkl
   have G1:=Ok.row' HKR.out HG2.out
   have r0:wr.cell? ⟨bg,0,none⟩=some (.slice x0 ns.length y0):=(cell_of_row _ _ 0 _ _ _ HGB.out).trans (by simp)
   have r1:wr.cell? ⟨bg,1,none⟩=some (.slice x1 l.sc.length y1):=(cell_of_row _ _ 1 _ _ _ HGB.out).trans (by simp)
   have r2:wr.cell? ⟨bg,2,none⟩=some (.slice x2 l.ar.length y2):=(cell_of_row _ _ 2 _ _ _ HGB.out).trans (by simp)
   have r3:wr.cell? ⟨bg,3,none⟩=some (.slice x3 l.sy.length y3):=(cell_of_row _ _ 3 _ _ _ HGB.out).trans (by simp)
   have r4:wr.cell? ⟨bg,4,none⟩=some (.slice x4 l.si.length y4):=(cell_of_row _ _ 4 _ _ _ HGB.out).trans (by simp)
   have r5:wr.cell? ⟨bg,5,none⟩=some (.slice x5 l.so.length y5):=(cell_of_row _ _ 5 _ _ _ HGB.out).trans (by simp)
   have r6:wr.cell? ⟨bg,6,none⟩=some (.int .i64 ((pn:Int)+1)):=(cell_of_row _ _ 6 _ _ _ HGB.out).trans (by simp)
   have r7:wr.cell? ⟨bg,7,none⟩=some (.int .i64 (pn:Nat)):=(cell_of_row _ _ 7 _ _ _ HGB.out).trans (by simp)
   have r8:wr.cell? ⟨bg,8,none⟩=some (.slice eo m ec):=(cell_of_row _ _ 8 _ _ _ HGB.out).trans (by simp)
   have t0:wr.cell? ⟨b1,0,none⟩=some (.slice none 0 0):=(cell_of_row _ _ 0 _ _ _ G1).trans (by simp)
   have t1:wr.cell? ⟨b1,1,none⟩=some (.slice none 0 0):=(cell_of_row _ _ 1 _ _ _ G1).trans (by simp)
   have t2:wr.cell? ⟨b1,2,none⟩=some (.slice none 0 0):=(cell_of_row _ _ 2 _ _ _ G1).trans (by simp)
   have t3:wr.cell? ⟨b1,3,none⟩=some (.slice none 0 0):=(cell_of_row _ _ 3 _ _ _ G1).trans (by simp)
   have t4:wr.cell? ⟨b1,4,none⟩=some (.slice none 0 0):=(cell_of_row _ _ 4 _ _ _ G1).trans (by simp)
   have t5:wr.cell? ⟨b1,5,none⟩=some (.slice none 0 0):=(cell_of_row _ _ 5 _ _ _ G1).trans (by simp)
   have t6:wr.cell? ⟨b1,6,none⟩=some (.int .i64 0):=(cell_of_row _ _ 6 _ _ _ G1).trans (by simp)
   have t7:wr.cell? ⟨b1,7,none⟩=some (.int .i64 0):=(cell_of_row _ _ 7 _ _ _ G1).trans (by simp)
   have t8:wr.cell? ⟨b1,8,none⟩=some (.slice none 0 0):=(cell_of_row _ _ 8 _ _ _ G1).trans (by simp)
   have wf:∀ i,wr.frozen? ⟨b1,i,none⟩=false:=fun i=>frozen_of_row _ _ _ _ _ G1
   have lg1:=za2 G1
   have lg2:=za2 HGB.out
   have HG9:Hid _:=G1
   have HEL:Hid (elF ns=es):=by unfold Hid;rw [yA9 HT.out,HES.out,show k=ns.length by omega]
   go_wp2_with fail
   try simp only [Exit.inBlock,Exit.then]
   refine bodyPost_ret (zc1 rfl _ _ b1 46 _ (0,0) _ rfl (zB7 HG9.out _ _ _ _ _ _ _ _ _) Tryz.underlying46 rfl Tryz.infoG) rfl ?_
   refine ⟨.slice eo m ec,rfl,?_,?_⟩
   ·rw [HEL.out,<-HM.out]
    have hb:=HB.out
    have hg:=HBG.out
    exact za8 (zB8 HOW.out (fun b hbb=>by have:=(HOW.out.lt b hbb).1;omega) _ _ _ _ _ _ _ _ _) (by omega)
   ·exact zq1 (HK2.out.step HKR.out) (by have:=HB.out;omega) _ _ _ _ _ _ _ _ _
end
end Go.Proofs.YtenoopfeplalnaaGreatDoor
