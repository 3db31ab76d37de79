import Derived.Test.YtbneneijdgcccaaGreatDoorKTg
set_option maxHeartbeats 8000000
set_option linter.all false
set_option maxRecDepth 100000
namespace Go.Proofs.YtbneneijdgcccaaGreatDoor
section
open Go.RowKit
theorem SL.many (w:World) (t:TypeId) (xs:List Value) {s n:Nat} (hs:xs.length=n*s) (h1:∀ u∈xs,u.oneCell'=true):SL (w.alloc (.cells xs.toArray t)) s (.slice (some ⟨w.heap.size,0,none⟩) n n) n xs:=by
 refine ⟨hs,h1,_,_,rfl,.inr ⟨_,_,rfl,by simp,fun j u hj=>?_⟩⟩
 have hlt:=(List.getElem?_eq_some_iff.1 hj).1
 have h0:(w.alloc (.cells xs.toArray t)).heap[w.heap.size]?=some (.cells xs.toArray t (0,0)):=heap_at _ _ _ (by simp)
 rw [Nat.zero_add]
 exact (cell_of_row _ _ j _ _ _ h0).trans (by simpa using hj)
theorem zI7 (v:Value) (ns:List Nd) (hT:TreeOK ns) (hl:ns.length<=1000) (i:Nat) (w:World) (h:SNds w v ns) (hi:i<ns.length) (hk:2<=kdA ns i/\kdA ns i<=8) (hc:¬(kdA ns i=7\/kdA ns i=8)) :
  Calls Tryz.prog 18 #[v,.int .i64 (i:Nat)] w fun e w'=>∃ lv,e=.returned lv/\SL w' 6 lv (elR ns i).length (edL (elR ns i))/\Ok w w':=by
 have HSN:Hi (∀ W,Ok w W->SNds W v ns):=fun W hW=>h.below hW
 obtain ⟨_,ao,cap,rfl,_,_,hN⟩:=h
 obtain ⟨b,o,rfl,N1⟩:=hN.resolve_left (fun e=>by rw [e] at hi;simp at hi)
 have HN:Hi (NodesAt w b o ns):=N1
 have HI:Hi (i<ns.length/\ns.length<=1000):=⟨hi,hl⟩
 have HTR:=hid hT
 have HKD:=hid hk
 clear N1 hN
 obtain ⟨k,hkk⟩:=qq (kdA ns i)
 obtain ⟨q,hq⟩:=qq (ptF ns i)
 obtain ⟨t,ht⟩:=qq (BH ns i)
 have HQ:Hi (q=ptF ns i/\t=BH ns i):=⟨hq,ht⟩
 have HE:Hi (elR ns i=[⟨(q:Nat),(t:Nat),k-2,(i:Nat),false,false⟩]):=by
  unfold Hi elR;rw [if_neg hc,hq,ht,hkk]
 rw [HE.o]
 rw [<-hkk] at hc hk
 have h7:¬k=7:=fun e=>hc (.inl e)
 have h8:¬k=8:=fun e=>hc (.inr e)
 have h7d:decide (k=7)=false:=decide_eq_false h7
 have h8d:decide (k=8)=false:=decide_eq_false h8
 have h7b:(k != 7)=true:=by simpa using h7
 have h8b:(k != 8)=true:=by simpa using h8
 have h78b:(k != 7&&k != 8)=true:=by rw [h7b,h8b];rfl
 have hkw:IntKind.i64.wrap (k-2)=k-2:=by rw [IntKind.wrap_i64];omega
 have hkw2:wrap64 (k-2)=k-2:=by unfold wrap64;omega
 have hi2:(i:Int)<(ns.length:Int):=za5 hi
 obtain ⟨ni,hni⟩:∃ n,ns[i]?=some n:=⟨_,List.getElem?_eq_getElem hi⟩
 have HNI:Hi (ns[i]?=some ni/\ni.kind=k):=⟨hni,by rw [hkk,ze1 hni]⟩
 clear hni hkk hq ht hc
 go_enter Tryz.func18,Tryz.ntmps18
 go_wp2_with (first
  | (go_at_call 16;refine (zd2 _ ns i _ (HSN.o _ (Ok.refl _)) (by have:=HI.o;omega)).mono ?_;rintro e w1 ⟨rfl,hk1⟩;have HK1:Hi (Ok w w1):=hk1;have M1:=HN.o.below HK1.o;have lb1:=M1.lt;have c1:=(M1.get HNI.o.1).2.1;rw [HNI.o.2] at c1;rw [<-HQ.o.1];clear M1 hk1)
  | (go_at_call 32;refine (zg7 _ ns HTR.o HI.o.2 i _ (HSN.o _ HK1.o) HI.o.1 HKD.o).mono ?_;rintro e w2 ⟨rfl,hk2⟩;have HK2:Hi (Ok w w2):=HK1.o.step hk2;rw [<-HQ.o.2];clear hk2)
  | fail)
 go_ret
 exact ⟨_,rfl,SL.many w2 56 (edL [⟨(q:Nat),(t:Nat),k-2,(i:Nat),false,false⟩]) (by rfl) (by simp [edL,edV,Value.oneCell']),HK2.o.alloc _⟩
theorem zj9 {w:World} {B g cap:Nat} {n:Nat} {l:List Nat} (h:w.ownsRow B 3 1 (.slice (some ⟨g,0,none⟩) n cap) n (inL l)) (k x:Nat) (hk:l[k]?=some x):w.cell? ⟨g,k,none⟩=some (.int .i64 (x:Nat)):=by
 have:=h.cells (g:=g) rfl k _ (show (inL l)[k]?=some (.int .i64 (x:Nat)) by unfold inL;rw [List.getElem?_map,hk];rfl)
 rw [zb7,Nat.zero_add] at this
 exact this
theorem yl2 (v:Value) (ns:List Nd) (hT:TreeOK ns) (hl:ns.length<=1000) (i a:Nat) (w:World) (h:SNds w v ns) (hi:i<ns.length) (hkk:kdA ns i=7) (hH:hlF ns i=[i+1,a]) (ha:hdF ns a=(i:Int)) (hal:a<ns.length) :
  Calls Tryz.prog 18 #[v,.int .i64 (i:Nat)] w fun e w'=>∃ lv,e=.returned lv/\SL w' 6 lv (elR ns i).length (edL (elR ns i))/\Ok w w':=by
 have HSN:Hi (∀ W,Ok w W->SNds W v ns):=fun W hW=>h.below hW
 obtain ⟨_,ao,cap,rfl,_,_,hN⟩:=h
 obtain ⟨b,o,rfl,N1⟩:=hN.resolve_left (fun e=>by rw [e] at hi;simp at hi)
 have HN:Hi (NodesAt w b o ns):=N1
 have HI:Hi (i<ns.length/\ns.length<=1000):=⟨hi,hl⟩
 have HTR:=hid hT
 have HKD:Hi (2<=kdA ns i/\kdA ns i<=8):=by unfold Hi;omega
 have HHL:=hid hH
 clear N1 hN
 obtain ⟨q,hq⟩:=qq (ptF ns i)
 obtain ⟨t,ht⟩:=qq (BH ns i)
 obtain ⟨t1,ht1⟩:=qq (BG ns a)
 have HQ:Hi (q=ptF ns i/\t=BH ns i/\t1=BG ns a):=⟨hq,ht,ht1⟩
 have HA:Hi (hdF ns a=(i:Int)/\a<ns.length):=⟨ha,hal⟩
 have HE:Hi (elR ns i=[⟨(q:Nat),(t1:Nat),5,((i+1:Nat):Int),true,false⟩,⟨(q:Nat),(t:Nat),5,((i+1:Nat):Int),false,false⟩]):=by
  unfold Hi elR;rw [if_pos (by omega),hH,hkk,hq,ht1,ht];rfl
 rw [HE.o]
 have hi2:(i:Int)<(ns.length:Int):=za5 hi
 obtain ⟨ni,hni⟩:∃ n,ns[i]?=some n:=⟨_,List.getElem?_eq_getElem hi⟩
 have HNI:Hi (ns[i]?=some ni/\ni.kind=7):=⟨hni,by rw [<-ze1 hni,hkk]⟩
 clear hni hkk hq ht ht1 ha hal hH
 go_enter Tryz.func18,Tryz.ntmps18
 go_wp2_with (first
  | (go_at_call 16;refine (zd2 _ ns i _ (HSN.o _ (Ok.refl _)) (by have:=HI.o;omega)).mono ?_;rintro e w1 ⟨rfl,hk1⟩;have HK1:Hi (Ok w w1):=hk1;have M1:=HN.o.below HK1.o;have lb1:=M1.lt;have c1:=(M1.get HNI.o.1).2.1;rw [HNI.o.2] at c1;rw [<-HQ.o.1];clear M1 hk1)
  | (go_at_call 33;refine (zw0 _ ns i _ (HSN.o _ HK1.o) HI.o.1 HI.o.2).mono ?_;rintro e w2 ⟨hv,rfl,ho2,hk2⟩;have HK2:Hi (Ok w w2):=HK1.o.step hk2;rw [HHL.o] at ho2;obtain ⟨hg,hcap,rfl,_⟩:=ho2.form (by simp);have HO2:Hi (w2.ownsRow w1.heap.size 3 1 (.slice (some ⟨hg,0,none⟩) 2 hcap) 2 (inL [i+1,a])):=ho2;clear ho2 hk2)
  | (go_at_call 32;refine (zg7 _ ns HTR.o HI.o.2 i _ (HSN.o _ HK2.o) HI.o.1 HKD.o).mono ?_;rintro e w3 ⟨rfl,hk3⟩;have HK3:Hi (Ok w w3):=HK2.o.step hk3;have HO3:Hi (w3.ownsRow w1.heap.size 3 1 (.slice (some ⟨hg,0,none⟩) 2 hcap) 2 (inL [i+1,a])):=za1 HO2.o hk3;have lg3:=(HO3.o.lt hg rfl).2;rw [<-HQ.o.2.1];clear hk3)
  | fail)
 have l4:=(HO3.o.lt hg rfl).2
 have k0:w3.drew.cell? ⟨hg,0,none⟩=some (.int .i64 ((i+1:Nat):Int)):=zj9 HO3.o 0 _ rfl
 have k1:w3.drew.cell? ⟨hg,1,none⟩=some (.int .i64 (a:Nat)):=zj9 HO3.o 1 _ rfl
 have K01:=And.intro k0 k1
 go_region_held3 (fun w'=>w'.cell? ⟨hg,0,none⟩=some (.int .i64 ((i+1:Nat):Int))/\w'.cell? ⟨hg,1,none⟩=some (.int .i64 (a:Nat)))
  (first | (with_reducible exact d01) | (with_reducible exact K01) | go_keep)
  (first
  | (go_at_call 34;refine (Calls.mono (zn5 _ ns HTR.o HI.o.2 a i _ (HSN.o _ (HK3.o.draws _)) HA.o.2 HA.o.1 HI.o.1 HKD.o) ?_);rintro e w5 ⟨rfl,hk5⟩;have HK5:Hi (Ok w w5):=(HK3.o.draws _).step hk5;have HO5:Hi (w5.ownsRow w1.heap.size 3 1 (.slice (some ⟨hg,0,none⟩) 2 hcap) 2 (inL [i+1,a])):=za1 HO3.o (Ok.step (by repeat (first | exact Ok.refl _ | refine Below.drew ?_)) hk5);have d01:=And.intro (zj9 HO5.o 0 _ rfl) (zj9 HO5.o 1 _ rfl);rw [<-HQ.o.2.2];clear hk5)
  | fail)
 go_wp2_with fail
 go_ret
 exact ⟨_,rfl,SL.many w5 56 (edL [⟨(q:Nat),(t1:Nat),5,((i+1:Nat):Int),true,false⟩,⟨(q:Nat),(t:Nat),5,((i+1:Nat):Int),false,false⟩]) (by rfl) (by simp [edL,edV,Value.oneCell']),HK5.o.alloc _⟩
theorem yl3 (v:Value) (ns:List Nd) (hT:TreeOK ns) (hl:ns.length<=1000) (i a s:Nat) (w:World) (h:SNds w v ns) (hi:i<ns.length) (hkk:kdA ns i=7) (hH:hlF ns i=[i+1,a,s]) (ha:hdF ns a=(i:Int)) (hal:a<ns.length) (hs:hdF ns s=(i:Int)) (hsl:s<ns.length) :
  Calls Tryz.prog 18 #[v,.int .i64 (i:Nat)] w fun e w'=>∃ lv,e=.returned lv/\SL w' 6 lv (elR ns i).length (edL (elR ns i))/\Ok w w':=by
 have HSN:Hi (∀ W,Ok w W->SNds W v ns):=fun W hW=>h.below hW
 obtain ⟨_,ao,cap,rfl,_,_,hN⟩:=h
 obtain ⟨b,o,rfl,N1⟩:=hN.resolve_left (fun e=>by rw [e] at hi;simp at hi)
 have HN:Hi (NodesAt w b o ns):=N1
 have HI:Hi (i<ns.length/\ns.length<=1000):=⟨hi,hl⟩
 have HTR:=hid hT
 have HKD:Hi (2<=kdA ns i/\kdA ns i<=8):=by unfold Hi;omega
 have HHL:=hid hH
 clear N1 hN
 obtain ⟨q,hq⟩:=qq (ptF ns i)
 obtain ⟨t,ht⟩:=qq (BH ns i)
 obtain ⟨t1,ht1⟩:=qq (BG ns a)
 obtain ⟨s2,hs2⟩:=qq (BG ns s)
 have HQ:Hi (q=ptF ns i/\t=BH ns i/\t1=BG ns a):=⟨hq,ht,ht1⟩
 have HA:Hi (hdF ns a=(i:Int)/\a<ns.length):=⟨ha,hal⟩
 have HS2:Hi (s2=BG ns s/\hdF ns s=(i:Int)/\s<ns.length):=⟨hs2,hs,hsl⟩
 have HE:Hi (elR ns i=[⟨(q:Nat),(t1:Nat),5,((i+1:Nat):Int),true,false⟩,⟨(q:Nat),(s2:Nat),5,((i+1:Nat):Int),false,false⟩]):=by
  unfold Hi elR;rw [if_pos (by omega),hH,hkk,hq,ht1,hs2];rfl
 rw [HE.o]
 have hi2:(i:Int)<(ns.length:Int):=za5 hi
 obtain ⟨ni,hni⟩:∃ n,ns[i]?=some n:=⟨_,List.getElem?_eq_getElem hi⟩
 have HNI:Hi (ns[i]?=some ni/\ni.kind=7):=⟨hni,by rw [<-ze1 hni,hkk]⟩
 clear hni hkk hq ht ht1 ha hal hH hs2 hs hsl
 go_enter Tryz.func18,Tryz.ntmps18
 go_wp2_with (first
  | (go_at_call 16;refine (zd2 _ ns i _ (HSN.o _ (Ok.refl _)) (by have:=HI.o;omega)).mono ?_;rintro e w1 ⟨rfl,hk1⟩;have HK1:Hi (Ok w w1):=hk1;have M1:=HN.o.below HK1.o;have lb1:=M1.lt;have c1:=(M1.get HNI.o.1).2.1;rw [HNI.o.2] at c1;rw [<-HQ.o.1];clear M1 hk1)
  | (go_at_call 33;refine (zw0 _ ns i _ (HSN.o _ HK1.o) HI.o.1 HI.o.2).mono ?_;rintro e w2 ⟨hv,rfl,ho2,hk2⟩;have HK2:Hi (Ok w w2):=HK1.o.step hk2;rw [HHL.o] at ho2;obtain ⟨hg,hcap,rfl,_⟩:=ho2.form (by simp);have HO2:Hi (w2.ownsRow w1.heap.size 3 1 (.slice (some ⟨hg,0,none⟩) 3 hcap) 3 (inL [i+1,a,s])):=ho2;clear ho2 hk2)
  | (go_at_call 32;refine (zg7 _ ns HTR.o HI.o.2 i _ (HSN.o _ HK2.o) HI.o.1 HKD.o).mono ?_;rintro e w3 ⟨rfl,hk3⟩;have HK3:Hi (Ok w w3):=HK2.o.step hk3;have HO3:Hi (w3.ownsRow w1.heap.size 3 1 (.slice (some ⟨hg,0,none⟩) 3 hcap) 3 (inL [i+1,a,s])):=za1 HO2.o hk3;have lg3:=(HO3.o.lt hg rfl).2;have d2:=zj9 HO3.o 2 _ rfl;rw [<-HQ.o.2.1];clear hk3)
  | (go_at_call 34;refine (zn5 _ ns HTR.o HI.o.2 s i _ (HSN.o _ HK3.o) HS2.o.2.2 HS2.o.2.1 HI.o.1 HKD.o).mono ?_;rintro e w4 ⟨rfl,hk4⟩;have HK4:Hi (Ok w w4):=HK3.o.step hk4;have HO4:Hi (w4.ownsRow w1.heap.size 3 1 (.slice (some ⟨hg,0,none⟩) 3 hcap) 3 (inL [i+1,a,s])):=za1 HO3.o hk4;rw [<-HS2.o.1];clear hk4)
  | fail)
 have l4:=(HO4.o.lt hg rfl).2
 have k0:w4.drew.cell? ⟨hg,0,none⟩=some (.int .i64 ((i+1:Nat):Int)):=zj9 HO4.o 0 _ rfl
 have k1:w4.drew.cell? ⟨hg,1,none⟩=some (.int .i64 (a:Nat)):=zj9 HO4.o 1 _ rfl
 have K01:=And.intro k0 k1
 go_region_held3 (fun w'=>w'.cell? ⟨hg,0,none⟩=some (.int .i64 ((i+1:Nat):Int))/\w'.cell? ⟨hg,1,none⟩=some (.int .i64 (a:Nat)))
  (first | (with_reducible exact d01) | (with_reducible exact K01) | go_keep)
  (first
  | (go_at_call 34;refine (Calls.mono (zn5 _ ns HTR.o HI.o.2 a i _ (HSN.o _ (HK4.o.draws _)) HA.o.2 HA.o.1 HI.o.1 HKD.o) ?_);rintro e w5 ⟨rfl,hk5⟩;have HK5:Hi (Ok w w5):=(HK4.o.draws _).step hk5;have HO5:Hi (w5.ownsRow w1.heap.size 3 1 (.slice (some ⟨hg,0,none⟩) 3 hcap) 3 (inL [i+1,a,s])):=za1 HO4.o (Ok.step (by repeat (first | exact Ok.refl _ | refine Below.drew ?_)) hk5);have d01:=And.intro (zj9 HO5.o 0 _ rfl) (zj9 HO5.o 1 _ rfl);rw [<-HQ.o.2.2];clear hk5)
  | fail)
 go_wp2_with fail
 go_ret
 exact ⟨_,rfl,SL.many w5 56 (edL [⟨(q:Nat),(t1:Nat),5,((i+1:Nat):Int),true,false⟩,⟨(q:Nat),(s2:Nat),5,((i+1:Nat):Int),false,false⟩]) (by rfl) (by simp [edL,edV,Value.oneCell']),HK5.o.alloc _⟩
theorem yl4 (v:Value) (ns:List Nd) (hT:TreeOK ns) (hl:ns.length<=1000) (i a:Nat) (w:World) (h:SNds w v ns) (hi:i<ns.length) (hkk:kdA ns i=8) (hH:hlF ns i=[i+1,a]) (ha:hdF ns a=(i:Int)) (hal:a<ns.length) :
  Calls Tryz.prog 18 #[v,.int .i64 (i:Nat)] w fun e w'=>∃ lv,e=.returned lv/\SL w' 6 lv (elR ns i).length (edL (elR ns i))/\Ok w w':=by
 have HSN:Hi (∀ W,Ok w W->SNds W v ns):=fun W hW=>h.below hW
 obtain ⟨_,ao,cap,rfl,_,_,hN⟩:=h
 obtain ⟨b,o,rfl,N1⟩:=hN.resolve_left (fun e=>by rw [e] at hi;simp at hi)
 have HN:Hi (NodesAt w b o ns):=N1
 have HI:Hi (i<ns.length/\ns.length<=1000):=⟨hi,hl⟩
 have HTR:=hid hT
 have HKD:Hi (2<=kdA ns i/\kdA ns i<=8):=by unfold Hi;omega
 have HHL:=hid hH
 clear N1 hN
 obtain ⟨q,hq⟩:=qq (ptF ns i)
 obtain ⟨t,ht⟩:=qq (BH ns i)
 obtain ⟨t1,ht1⟩:=qq (BG ns a)
 have HQ:Hi (q=ptF ns i/\t=BH ns i/\t1=BG ns a):=⟨hq,ht,ht1⟩
 have HA:Hi (hdF ns a=(i:Int)/\a<ns.length):=⟨ha,hal⟩
 have HE:Hi (elR ns i=[⟨(q:Nat),(t1:Nat),5,((i+1:Nat):Int),true,true⟩,⟨(q:Nat),(t:Nat),5,((i+1:Nat):Int),false,true⟩]):=by
  unfold Hi elR;rw [if_pos (by omega),hH,hkk,hq,ht1,ht];rfl
 rw [HE.o]
 have hi2:(i:Int)<(ns.length:Int):=za5 hi
 obtain ⟨ni,hni⟩:∃ n,ns[i]?=some n:=⟨_,List.getElem?_eq_getElem hi⟩
 have HNI:Hi (ns[i]?=some ni/\ni.kind=8):=⟨hni,by rw [<-ze1 hni,hkk]⟩
 clear hni hkk hq ht ht1 ha hal hH
 go_enter Tryz.func18,Tryz.ntmps18
 go_wp2_with (first
  | (go_at_call 16;refine (zd2 _ ns i _ (HSN.o _ (Ok.refl _)) (by have:=HI.o;omega)).mono ?_;rintro e w1 ⟨rfl,hk1⟩;have HK1:Hi (Ok w w1):=hk1;have M1:=HN.o.below HK1.o;have lb1:=M1.lt;have c1:=(M1.get HNI.o.1).2.1;rw [HNI.o.2] at c1;rw [<-HQ.o.1];clear M1 hk1)
  | (go_at_call 33;refine (zw0 _ ns i _ (HSN.o _ HK1.o) HI.o.1 HI.o.2).mono ?_;rintro e w2 ⟨hv,rfl,ho2,hk2⟩;have HK2:Hi (Ok w w2):=HK1.o.step hk2;rw [HHL.o] at ho2;obtain ⟨hg,hcap,rfl,_⟩:=ho2.form (by simp);have HO2:Hi (w2.ownsRow w1.heap.size 3 1 (.slice (some ⟨hg,0,none⟩) 2 hcap) 2 (inL [i+1,a])):=ho2;clear ho2 hk2)
  | (go_at_call 32;refine (zg7 _ ns HTR.o HI.o.2 i _ (HSN.o _ HK2.o) HI.o.1 HKD.o).mono ?_;rintro e w3 ⟨rfl,hk3⟩;have HK3:Hi (Ok w w3):=HK2.o.step hk3;have HO3:Hi (w3.ownsRow w1.heap.size 3 1 (.slice (some ⟨hg,0,none⟩) 2 hcap) 2 (inL [i+1,a])):=za1 HO2.o hk3;have lg3:=(HO3.o.lt hg rfl).2;rw [<-HQ.o.2.1];clear hk3)
  | fail)
 have l4:=(HO3.o.lt hg rfl).2
 have k0:w3.drew.cell? ⟨hg,0,none⟩=some (.int .i64 ((i+1:Nat):Int)):=zj9 HO3.o 0 _ rfl
 have k1:w3.drew.cell? ⟨hg,1,none⟩=some (.int .i64 (a:Nat)):=zj9 HO3.o 1 _ rfl
 have K01:=And.intro k0 k1
 go_region_held3 (fun w'=>w'.cell? ⟨hg,0,none⟩=some (.int .i64 ((i+1:Nat):Int))/\w'.cell? ⟨hg,1,none⟩=some (.int .i64 (a:Nat)))
  (first | (with_reducible exact d01) | (with_reducible exact K01) | go_keep)
  (first
  | (go_at_call 34;refine (Calls.mono (zn5 _ ns HTR.o HI.o.2 a i _ (HSN.o _ (HK3.o.draws _)) HA.o.2 HA.o.1 HI.o.1 HKD.o) ?_);rintro e w5 ⟨rfl,hk5⟩;have HK5:Hi (Ok w w5):=(HK3.o.draws _).step hk5;have HO5:Hi (w5.ownsRow w1.heap.size 3 1 (.slice (some ⟨hg,0,none⟩) 2 hcap) 2 (inL [i+1,a])):=za1 HO3.o (Ok.step (by repeat (first | exact Ok.refl _ | refine Below.drew ?_)) hk5);have d01:=And.intro (zj9 HO5.o 0 _ rfl) (zj9 HO5.o 1 _ rfl);rw [<-HQ.o.2.2];clear hk5)
  | fail)
 go_wp2_with fail
 go_ret
 exact ⟨_,rfl,SL.many w5 56 (edL [⟨(q:Nat),(t1:Nat),5,((i+1:Nat):Int),true,true⟩,⟨(q:Nat),(t:Nat),5,((i+1:Nat):Int),false,true⟩]) (by rfl) (by simp [edL,edV,Value.oneCell']),HK5.o.alloc _⟩
theorem zX4 (v:Value) (ns:List Nd) (hT:TreeOK ns) (hl:ns.length<=1000) (i:Nat) (w:World) (h:SNds w v ns) (hi:i<ns.length) (hk:2<=kdA ns i/\kdA ns i<=8) :
  Calls Tryz.prog 18 #[v,.int .i64 (i:Nat)] w fun e w'=>∃ lv,e=.returned lv/\SL w' 6 lv (elR ns i).length (edL (elR ns i))/\Ok w w':=by
 by_cases hc:kdA ns i=7\/kdA ns i=8
 ·obtain ⟨t1,t2,t3,t4,t5,t6⟩:=hT.two hi hc
  have hlo:=ze8 (ns:=ns) (p:=i+1)
  have hal:=(zc1 (ns:=ns) (p:=i) (q:=endF ns (i+1)) (by omega) t2).2
  have ha:=hd_of hT (i:=endF ns (i+1)) (g:=i) (by omega) t2 t3
  rcases yw1 hT hi hc with ⟨e1,e2⟩ | ⟨e1,e2⟩
  ·rcases hc with h7 | h8
   ·exact yl2 v ns hT hl i _ w h hi h7 e2 ha hal
   exact yl4 v ns hT hl i _ w h hi h8 e2 ha hal
  rcases t6 with e | ⟨q1,q2,q3,q4,q5⟩
  ·omega
  have hlo2:=ze8 (ns:=ns) (p:=endF ns (i+1))
  exact yl3 v ns hT hl i _ _ w h hi q1 e2 ha hal (hd_of hT (by omega) e1 q4) (zc1 (ns:=ns) (p:=i) (by omega) e1).2
 exact zI7 v ns hT hl i w h hi hk hc
end
section
open Go.RowKit
theorem zO1 (v0 v1 v2 v3 v4 v5:Value) (ns:List Nd) (l:Ls) (w:World) (h:ProgIs w v0 v1 v2 v3 v4 v5 ns l) (hg:goodD ns l=true) :
  Calls Tryz.prog 7 #[.agg #[v0,v1,v2,v3,v4,v5]] w fun e w'=>∃ ev:Value,e=.returned (.tuple #[.agg #[v0,v1,v2,v3,v4,v5,.int .i64 ((ptF ns ns.length+1:Nat):Int),.int .i64 (ptF ns ns.length:Nat),ev],.int .i64 0])/\w'.ownsRow w.heap.size 56 6 ev (elF ns).length (edL (elF ns))/\Ok w w':=by
 have h0:=zv7 hg
 have HT:Hi (TreeOK ns):=zN8 (zq4 h0)
 have HLN:Hi (ns.length<=300):=(zj1 ns h0).2
 have HG:=hid hg
 have HP:=hid h
 obtain ⟨_,x0,y0,rfl,_⟩:=h.nodes
 obtain ⟨_,_,x1,y1,rfl,_⟩:=h.lists.sc.sl
 obtain ⟨_,_,x2,y2,rfl,_⟩:=h.lists.ar.sl
 obtain ⟨_,_,x3,y3,rfl,_⟩:=h.lists.sy.sl
 obtain ⟨_,_,x4,y4,rfl,_⟩:=h.lists.si.sl
 obtain ⟨_,_,x5,y5,rfl,_⟩:=h.lists.so.sl
 clear h0 hg h
 obtain ⟨pn,hpn⟩:=qq (ptF ns ns.length)
 have HPN:Hi (pn=ptF ns ns.length/\pn<=300):=⟨hpn,by rw [hpn];exact Nat.le_trans (zq9 _ _) HLN.o⟩
 have hpw:IntKind.i64.wrap ((pn:Int)+1)=((pn+1:Nat):Int):=zb3 (by have:=HPN.o;omega)
 rw [<-hpn]
 clear hpn
 go_enter Tryz.func7,Tryz.ntmps7
 go_wp2_with fail
 obtain ⟨w0,hw0⟩:=qq ((w.alloc (Obj.cells #[.slice x0 ns.length y0,.slice x1 l.sc.length y1,.slice x2 l.ar.length y2,.slice x3 l.sy.length y3,.slice x4 l.si.length y4,.slice x5 l.so.length y5] 30)).alloc (Obj.cells #[.slice none 0 0,.slice none 0 0,.slice none 0 0,.slice none 0 0,.slice none 0 0,.slice none 0 0,.int .i64 0,.int .i64 0,.slice none 0 0] 42))
 obtain ⟨b1,hb1⟩:=qq (w.heap.size+1)
 obtain ⟨b0,hb0⟩:=qq (w.heap.size)
 rw [<-hw0,<-hb1,<-hb0]
 have HK0:Hi (Ok w w0):=by rw [hw0];exact ((Ok.refl w).alloc _).alloc _
 have HX0:Hi (Six w0 b0 (.slice x0 ns.length y0) (.slice x1 l.sc.length y1) (.slice x2 l.ar.length y2) (.slice x3 l.sy.length y3) (.slice x4 l.si.length y4) (.slice x5 l.so.length y5)):=by rw [hw0,hb0];exact (Six.new w _ _ _ _ _ _).below ((Ok.refl _).alloc _)
 have HG0:Hi (w0.heap[b1]?=some (.cells #[Value.slice none 0 0,Value.slice none 0 0,Value.slice none 0 0,Value.slice none 0 0,Value.slice none 0 0,Value.slice none 0 0,Value.int IntKind.i64 0,Value.int IntKind.i64 0,Value.slice none 0 0] 42 (0,0))):=by rw [hw0,hb1];exact heap_at _ _ _ (by simp)
 have HB:Hi (b0=w.heap.size/\b1=w.heap.size+1):=⟨hb0,hb1⟩
 clear hw0 hb1 hb0
 refine (yj7 _ _ _ _ _ _ ns l w0 (HP.o.below HK0.o)).mono ?_
 rintro e w1 ⟨rfl,hk1⟩
 rw [HG.o]
 have HK1:Hi (Ok w w1):=HK0.o.step hk1
 have HX1:Hi (Six w1 b0 (.slice x0 ns.length y0) (.slice x1 l.sc.length y1) (.slice x2 l.ar.length y2) (.slice x3 l.sy.length y3) (.slice x4 l.si.length y4) (.slice x5 l.so.length y5)):=HX0.o.below hk1
 have HG1:Hi (w1.heap[b1]?=some (.cells #[Value.slice none 0 0,Value.slice none 0 0,Value.slice none 0 0,Value.slice none 0 0,Value.slice none 0 0,Value.slice none 0 0,Value.int IntKind.i64 0,Value.int IntKind.i64 0,Value.slice none 0 0] 42 (0,0))):=Ok.row' hk1 HG0.o
 clear hk1 HG0 HX0
 obtain ⟨z1,c0,c1,c2,c3,c4,c5⟩:=HX1.o.pc
 go_wp2_with fail
 refine (zd2 _ ns ns.length _ ((HP.o.below HK1.o).nodes) (by have:=HLN.o;omega)).mono ?_
 rintro e w2 ⟨rfl,hk2⟩
 rw [<-HPN.o.1]
 have HK2:Hi (Ok w w2):=HK1.o.step hk2
 have HX2:Hi (Six w2 b0 (.slice x0 ns.length y0) (.slice x1 l.sc.length y1) (.slice x2 l.ar.length y2) (.slice x3 l.sy.length y3) (.slice x4 l.si.length y4) (.slice x5 l.so.length y5)):=HX1.o.below hk2
 have HG2:Hi (w2.heap[b1]?=some (.cells #[Value.slice none 0 0,Value.slice none 0 0,Value.slice none 0 0,Value.slice none 0 0,Value.slice none 0 0,Value.slice none 0 0,Value.int IntKind.i64 0,Value.int IntKind.i64 0,Value.slice none 0 0] 42 (0,0))):=Ok.row' hk2 HG1.o
 clear hk2 HG1 HX1 z1 c0 c1 c2 c3 c4 c5
 obtain ⟨z1,c0,c1,c2,c3,c4,c5⟩:=HX2.o.pc
 go_wp2_with fail
 obtain ⟨bg,hbg⟩:=qq (w2.heap.size)
 obtain ⟨W,hW⟩:=qq (w2.alloc (Obj.cells #[.slice x0 ns.length y0,.slice x1 l.sc.length y1,.slice x2 l.ar.length y2,.slice x3 l.sy.length y3,.slice x4 l.si.length y4,.slice x5 l.so.length y5,.int .i64 ((pn:Int)+1),.int .i64 (pn:Nat),.slice none 0 0] 42))
 rw [<-hW,<-hbg]
 have HBG:Hi (bg=w2.heap.size/\b1<bg/\b0<bg):=⟨hbg,by rw [hbg];exact za2 HG2.o,by have h1:=za2 HG2.o;have h2:=HB.o;omega⟩
 have HWK:Hi (Ok w2 W):=by rw [hW];exact (Ok.refl _).alloc _
 have HWG:Hi (W.heap[bg]?=some (.cells #[Value.slice x0 ns.length y0,Value.slice x1 l.sc.length y1,Value.slice x2 l.ar.length y2,Value.slice x3 l.sy.length y3,Value.slice x4 l.si.length y4,Value.slice x5 l.so.length y5,Value.int IntKind.i64 ((pn:Int)+1),Value.int IntKind.i64 (pn:Nat),Value.slice none 0 0] 42 (0,0))):=by rw [hW,hbg];exact za3 _ _
 clear hW hbg z1 c0 c1 c2 c3 c4 c5 hpw
 go_loopw [6] (fun i wr=>∃ (k:Nat) (ev:Value),i=.int .i64 (k:Nat)/\k<=ns.length/\Hi (wr.heap[bg]?=some (.cells #[Value.slice x0 ns.length y0,Value.slice x1 l.sc.length y1,Value.slice x2 l.ar.length y2,Value.slice x3 l.sy.length y3,Value.slice x4 l.si.length y4,Value.slice x5 l.so.length y5,Value.int IntKind.i64 ((pn:Int)+1),Value.int IntKind.i64 (pn:Nat),ev] 42 (0,0)))/\Hi (wr.ownsRow (bg+1) 56 6 ev (rgE ns 0 k).length (edL (rgE ns 0 k)))/\Hi ((rgE ns 0 k).length<=2*k)/\Hi (Ok w2 wr)) (fun i _=>ns.length-(intOf i).toNat)
 case atStart=>exact ⟨0,_,rfl,Nat.zero_le _,HWG.o,World.ownsRow_nil _ _ _ _,Nat.zero_le _,HWK.o⟩
 obtain ⟨k,ev,rfl,hk,HGB,HOW,HLE,HKR⟩:=hrel
 obtain ⟨es,hes⟩:=qq (rgE ns 0 k)
 have HES:Hi (es=rgE ns 0 k):=hes
 rw [<-hes] at HOW HLE
 clear hes
 obtain ⟨eo,ec,rfl⟩:=za0 HOW.o
 obtain ⟨m,hm⟩:=qq (es.length)
 have HM:Hi (m=es.length):=hm
 rw [<-hm] at HGB HOW HLE
 clear hm
 obtain ⟨z1,c0,c1,c2,c3,c4,c5⟩:=(HX2.o.below HKR.o).pc
 by_cases hkl:k<ns.length
 ·have hkl':(k:Int)<(ns.length:Int):=za5 hkl
  have hkw:IntKind.i64.wrap ((k:Int)+1)=((k+1:Nat):Int):=zb3 (by have:=HLN.o;omega)
  obtain ⟨n,hn⟩:∃ n,ns[k]?=some n:=⟨_,List.getElem?_eq_getElem hkl⟩
  obtain ⟨_,ao',cap',e1,_,_,hN⟩:=((HP.o.below HK2.o).below HKR.o).nodes
  injection e1 with e1 e2 e3;clear e2
  subst e1 e3
  obtain ⟨b,o,rfl,M1⟩:=hN.resolve_left (fun e=>by rw [e] at hkl;simp at hkl)
  obtain ⟨n0,n1,n2,n3,n4,n5⟩:=M1.get hn
  have lb:=M1.lt
  have HKDN:Hi (kdA ns k=n.kind):=ze1 hn
  obtain ⟨nd,nk,nm,nu,no,nps⟩:=n
  simp only at n0 n1 n2 n3 n4 n5 HKDN
  have HKL:Hi (k<ns.length):=hkl
  clear hn M1 hN
  by_cases hs:2<=nk/\nk<=8
  ·have HS:Hi ((decide (2<=nk)&&decide (nk<=8))=true):=by unfold Hi;rw [decide_eq_true hs.1,decide_eq_true hs.2];rfl
   have HKK:Hi (2<=kdA ns k/\kdA ns k<=8):=by rw [HKDN.o];exact hs
   have HSUC:Hi (rgE ns 0 (k+1)=es++elR ns k):=by unfold Hi;rw [HES.o,zg5 (x:=k) (by omega) (by omega),zO0 HKK.o]
   clear hs
   go_wp2_with (first
    | (go_at_call 17;refine (zp3 _ _ _ _ _ _ _).mono ?_;rintro e w3 ⟨rfl,hk3⟩;have HK3:Hi (Ok wr w3):=hk3;rw [HS.o];clear hk3)
    | fail)
   have HR3:Hi (Ok w2 w3):=HKR.o.step HK3.o
   have HG3:Hi _:=Ok.row' HK3.o HGB.o
   have HO3:Hi (w3.ownsRow (bg+1) 56 6 (.slice eo m ec) m (edL es)):=za1 HOW.o HK3.o
   obtain ⟨q1,d0,d1,d2,d3,d4,d5⟩:=(HX2.o.below HR3.o).pc
   have HSS:Hi (∀ X,Ok w3 X->X.cell? ⟨bg,8,none⟩=some (.slice eo m ec)/\X.cell? ⟨b0,0,none⟩=some (.slice (some ⟨b,o,none⟩) ns.length y0)):=fun X hX=>⟨(cell_of_row _ _ 8 _ _ _ (Ok.row' hX HG3.o)).trans (by simp),(HX2.o.below (HR3.o.step hX)).pc.c0⟩
   clear z1 c0 c1 c2 c3 c4 c5 n0 n1 n2 n3 n4 n5 lb
   have S0:=HSS.o w3.drew (Below.drew (Ok.refl _))
   refine zd5 (fun w'=>w'.cell? ⟨bg,8,none⟩=some (.slice eo m ec)/\w'.cell? ⟨b0,0,none⟩=some (.slice (some ⟨b,o,none⟩) ns.length y0)) 8 (by kernel_rfl) ?_
   refine tL 0 (.pointer (some ⟨bg,8,none⟩)) S0 ?_ ?_
   ·intro w' hSw;obtain ⟨s0,s1⟩:=hSw;go_simp;try with_reducible rfl
   simp only [pu]
   refine tL 1 (.slice eo m ec) S0 ?_ ?_
   ·intro w' hSw;obtain ⟨s0,s1⟩:=hSw;go_simp;try with_reducible rfl
   simp only [pu]
   refine tL 2 (.pointer (some ⟨b0,0,none⟩)) S0 ?_ ?_
   ·intro w' hSw;obtain ⟨s0,s1⟩:=hSw;go_simp;try with_reducible rfl
   simp only [pu]
   refine tL 3 (.slice (some ⟨b,o,none⟩) ns.length y0) S0 ?_ ?_
   ·intro w' hSw;obtain ⟨s0,s1⟩:=hSw;go_simp;try with_reducible rfl
   simp only [pu]
   refine tL 4 (.int .i64 (k:Nat)) S0 ?_ ?_
   ·intro w' hSw;obtain ⟨s0,s1⟩:=hSw;go_simp;try with_reducible rfl
   simp only [pu]
   refine zb0 (i:=5) (by kernel_rfl) rfl (fun K hK=>?_)
   go_simp
   refine (zX4 _ ns HT.o (by have:=HLN.o;omega) k _ (((HP.o.below HK2.o).below (HR3.o.step (Below.drew (Ok.refl _)))).nodes) HKL.o HKK.o).mono ?_
   rintro e w4 ⟨lv,rfl,hsl,hk4'⟩
   have hk4:Ok w3 w4:=Ok.step (Below.drew (Ok.refl _)) hk4'
   obtain ⟨hl1,hl2,lo,lc,rfl,hl3⟩:=hsl
   have hne:0<(elR ns k).length:=by unfold elR;split<;>simp
   have hne2:(elR ns k).length<=2:=by unfold elR;split<;>simp
   obtain ⟨gb,go,rfl,hgl,hcs⟩:=hl3.resolve_left (by omega)
   go_wp2_with fail
   refine hK.out _ _ (fun _=>HSS.o w4 hk4) ?_
   clear hK K
   obtain ⟨i0,hi0,hy0,hy1,hy2⟩:=zg6 infEd
   have HK4:Hi (Ok w3 w4):=hk4
   have HO4:Hi (w4.ownsRow (bg+1) 56 6 (.slice eo m ec) m (edL es)):=za1 HO3.o hk4
   have HG4:Hi _:=Ok.row' hk4 HG3.o
   have HML:Hi (m<=2*300):=by have h1:=HLE.o;have h2:=HLN.o;unfold Hi;omega
   obtain ⟨nn,hnn⟩:=qq ((elR ns k).length)
   have HNN:Hi (nn=(elR ns k).length/\0<nn/\nn<=2):=⟨hnn,by omega,by omega⟩
   have HNL:Hi ((edL (elR ns k)).length=nn*6):=by rw [hnn];exact hl1
   have HN1:Hi (∀ u∈edL (elR ns k),u.oneCell'=true):=hl2
   have HCS:Hi (∀ j u,(edL (elR ns k))[j]?=some u->w4.cell? ((⟨gb,go,none⟩:Addr).add j)=some u):=fun j u hj=>by rw [zb7];exact hcs j u hj
   rw [<-hnn]
   clear hk4 hk4' hl1 hl2 hl3 hcs hne hne2 hnn S0
   refine zb0 (i:=6) (by kernel_rfl) rfl (fun K hK=>?_)
   refine step_append_lies w4 (by rfl) _ _ _ (by rfl) (bg+1) 56 i0 _ 6 40 Tryz.underlying40 hi0 hy0 hy1 hy2 rfl (by decide) (.slice eo m ec) m (edL es) (by rfl) HO4.o ⟨gb,go,none⟩ nn lc (edL (elR ns k)) (by rfl) HNL.o HCS.o HN1.o HNN.o.2.1 (by have h1:=HML.o;have h2:=HNN.o;unfold maxLen;omega) (by have h1:=HML.o;have h2:=HNN.o;omega) (by have:=za2 HG4.o;omega) w4.heap.size rfl ?_
   intro gg capg w5 hown hgrow hat hlt
   have HG5:Hi _:=(show w5.heap[bg]?=_ from (hgrow.block bg (za2 HG4.o) (fun e=>by have:=(HO4.o.lt bg e.symm).1;omega)).trans HG4.o)
   have HR5:Hi (Ok w2 w5):=(HR3.o.step HK4.o).grown hgrow (fun b e=>by have h1:=(HO4.o.lt b e).1;have h2:=HBG.o;omega)
   have HO5:Hi (w5.ownsRow (bg+1) 56 6 (.slice (some ⟨gg,0,none⟩) (m+nn) capg) (m+nn) (edL es++edL (elR ns k))):=hown
   have S5:w5.cell? ⟨bg,8,none⟩=some (.slice eo m ec)/\w5.cell? ⟨b0,0,none⟩=some (.slice (some ⟨b,o,none⟩) ns.length y0):=⟨(cell_of_row _ _ 8 _ _ _ HG5.o).trans (by simp),(HX2.o.below HR5.o).pc.c0⟩
   refine hK.out _ _ (fun _=>S5) ?_
   clear hK K hown hgrow hat hlt
   simp only [pu]
   refine tL 7 (.pointer (some ⟨bg,8,none⟩)) S5 ?_ ?_
   ·intro w' hSw;obtain ⟨s0,s1⟩:=hSw;go_simp;try with_reducible rfl
   simp only [pu]
   have f5:w5.frozen? ⟨bg,8,none⟩=false:=frozen_of_row _ _ _ _ _ HG5.o
   have l5:=za2 HG5.o
   have e5:=S5.1
   refine zb0 (i:=8) (by kernel_rfl) rfl (fun K hK=>?_)
   go_simp
   refine hK.out _ _ (fun h=>absurd rfl h) ?_
   clear hK K
   refine zd4 (by kernel_rfl) ?_ _
   go_wp2_with fail
   go_roundw
   case rel=>exact ⟨k+1,_,rfl,hkl,by have:=heap_setCell_same w5 bg 8 _ 42 (.slice (some ⟨gg,0,none⟩) (m+nn) capg) HG5.o;unfold Hi;simpa using this,by have:=HO5.o;unfold Hi;rw [HSUC.o,List.length_append,<-HM.o,<-HNN.o.1,yk2];exact zn8 this (by omega) _,by unfold Hi;rw [HSUC.o,List.length_append,<-HM.o,<-HNN.o.1];have h1:=HLE.o;have h2:=HNN.o;omega,Below.setCell (p:=⟨bg,8,none⟩) HR5.o (by have:=HBG.o;show w2.heap.size<=bg;omega) _⟩
   case measure=>simp only [intOf,Int.toNat_natCast];omega
  have HS:Hi ((decide (2<=nk)&&decide (nk<=8))=false):=by
   unfold Hi
   by_cases h2:2<=nk
   ·rw [decide_eq_false (show ¬nk<=8 from fun h8=>hs ⟨h2,h8⟩),Bool.and_false]
   rw [decide_eq_false h2];rfl
  have HSUC:Hi (rgE ns 0 (k+1)=es):=by unfold Hi;rw [HES.o,zg5 (x:=k) (by omega) (by omega),zl0 (p:=k) (fun r r1 r2=>by rw [show r=k by omega,HKDN.o];exact hs),List.append_nil]
  clear hs
  go_wp2_with (first
   | (go_at_call 17;refine (zp3 _ _ _ _ _ _ _).mono ?_;rintro e w3 ⟨rfl,hk3⟩;have HK3:Hi (Ok wr w3):=hk3;rw [HS.o];clear hk3)
   | fail)
  go_roundw
  case rel=>exact ⟨k+1,_,rfl,hkl,Ok.row' HK3.o HGB.o,by rw [HSUC.o,<-HM.o];exact za1 HOW.o HK3.o,by unfold Hi;rw [HSUC.o,<-HM.o];have:=HLE.o;omega,HKR.o.step HK3.o⟩
  case measure=>simp only [intOf,Int.toNat_natCast];omega
 have hkl':¬(k:Int)<(ns.length:Int):=zb2 hkl
 have G1:=Ok.row' HKR.o HG2.o
 have r0:wr.cell? ⟨bg,0,none⟩=some (.slice x0 ns.length y0):=(cell_of_row _ _ 0 _ _ _ HGB.o).trans (by simp)
 have r1:wr.cell? ⟨bg,1,none⟩=some (.slice x1 l.sc.length y1):=(cell_of_row _ _ 1 _ _ _ HGB.o).trans (by simp)
 have r2:wr.cell? ⟨bg,2,none⟩=some (.slice x2 l.ar.length y2):=(cell_of_row _ _ 2 _ _ _ HGB.o).trans (by simp)
 have r3:wr.cell? ⟨bg,3,none⟩=some (.slice x3 l.sy.length y3):=(cell_of_row _ _ 3 _ _ _ HGB.o).trans (by simp)
 have r4:wr.cell? ⟨bg,4,none⟩=some (.slice x4 l.si.length y4):=(cell_of_row _ _ 4 _ _ _ HGB.o).trans (by simp)
 have r5:wr.cell? ⟨bg,5,none⟩=some (.slice x5 l.so.length y5):=(cell_of_row _ _ 5 _ _ _ HGB.o).trans (by simp)
 have r6:wr.cell? ⟨bg,6,none⟩=some (.int .i64 ((pn:Int)+1)):=(cell_of_row _ _ 6 _ _ _ HGB.o).trans (by simp)
 have r7:wr.cell? ⟨bg,7,none⟩=some (.int .i64 (pn:Nat)):=(cell_of_row _ _ 7 _ _ _ HGB.o).trans (by simp)
 have r8:wr.cell? ⟨bg,8,none⟩=some (.slice eo m ec):=(cell_of_row _ _ 8 _ _ _ HGB.o).trans (by simp)
 have t0:wr.cell? ⟨b1,0,none⟩=some (.slice none 0 0):=(cell_of_row _ _ 0 _ _ _ G1).trans (by simp)
 have t1:wr.cell? ⟨b1,1,none⟩=some (.slice none 0 0):=(cell_of_row _ _ 1 _ _ _ G1).trans (by simp)
 have t2:wr.cell? ⟨b1,2,none⟩=some (.slice none 0 0):=(cell_of_row _ _ 2 _ _ _ G1).trans (by simp)
 have t3:wr.cell? ⟨b1,3,none⟩=some (.slice none 0 0):=(cell_of_row _ _ 3 _ _ _ G1).trans (by simp)
 have t4:wr.cell? ⟨b1,4,none⟩=some (.slice none 0 0):=(cell_of_row _ _ 4 _ _ _ G1).trans (by simp)
 have t5:wr.cell? ⟨b1,5,none⟩=some (.slice none 0 0):=(cell_of_row _ _ 5 _ _ _ G1).trans (by simp)
 have t6:wr.cell? ⟨b1,6,none⟩=some (.int .i64 0):=(cell_of_row _ _ 6 _ _ _ G1).trans (by simp)
 have t7:wr.cell? ⟨b1,7,none⟩=some (.int .i64 0):=(cell_of_row _ _ 7 _ _ _ G1).trans (by simp)
 have t8:wr.cell? ⟨b1,8,none⟩=some (.slice none 0 0):=(cell_of_row _ _ 8 _ _ _ G1).trans (by simp)
 have wf:∀ i,wr.frozen? ⟨b1,i,none⟩=false:=fun i=>frozen_of_row _ _ _ _ _ G1
 have lg1:=za2 G1
 have lg2:=za2 HGB.o
 have HG9:Hi _:=G1
 have HEL:Hi (elF ns=es):=by unfold Hi;rw [yC7 HT.o,HES.o,show k=ns.length by omega]
 go_wp2_with fail
 try simp only [Exit.inBlock,Exit.then]
 refine bodyPost_ret (zc0 rfl _ _ b1 42 _ (0,0) _ rfl (zC4 HG9.o _ _ _ _ _ _ _ _ _) Tryz.underlying42 rfl Tryz.infoG) rfl ?_
 refine ⟨.slice eo m ec,rfl,?_,?_⟩
 ·rw [HEL.o,<-HM.o]
  have hb:=HB.o
  have hg:=HBG.o
  exact za7 (zC5 HOW.o (fun b hbb=>by have:=(HOW.o.lt b hbb).1;omega) _ _ _ _ _ _ _ _ _) (by omega)
 exact zq5 (HK2.o.step HKR.o) (by have:=HB.o;omega) _ _ _ _ _ _ _ _ _
end
end Go.Proofs.YtbneneijdgcccaaGreatDoor
