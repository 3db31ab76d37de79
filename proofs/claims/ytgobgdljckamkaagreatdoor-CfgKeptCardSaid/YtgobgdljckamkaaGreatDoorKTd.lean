import Derived.Test.YtgobgdljckamkaaGreatDoorKSc
set_option linter.unusedVariables false
set_option linter.unusedSimpArgs false
set_option linter.unnecessarySimpa false
namespace Go.Proofs.YtgobgdljckamkaaGreatDoor
section
open Go.RowKit
theorem zn8 (d k num op ps:Int) (s:ByteArray) (w:World) :
  Calls Tryz.prog 25 #[.agg #[.int .i64 d,.int .i64 k,.string s,.int .i64 num,.int .i64 op,.int .i64 ps]] w fun e w'=>e=.returned (.bool (decide (2≤k)&&decide (k≤8)))∧Ok w w':=by
 by_cases h1:2≤k
 ·by_cases h2:k≤8
  ·have h1d:decide (2≤k)=true:=decide_eq_true h1
   have h2d:decide (k≤8)=true:=decide_eq_true h2
   have HR:Hid ((decide (2≤k)&&decide (k≤8))=true):=by unfold Hid;rw [h1d,h2d];rfl
   rw [HR.out]
   go_enter Tryz.func25,Tryz.ntmps25
   go_wp2_with fail
   go_ret
   exact ⟨rfl,(Ok.refl w).alloc _⟩
  ·have h1d:decide (2≤k)=true:=decide_eq_true h1
   have h2d:decide (k≤8)=false:=decide_eq_false h2
   have HR:Hid ((decide (2≤k)&&decide (k≤8))=false):=by unfold Hid;rw [h1d,h2d];rfl
   rw [HR.out]
   go_enter Tryz.func25,Tryz.ntmps25
   go_wp2_with fail
   go_ret
   exact ⟨rfl,(Ok.refl w).alloc _⟩
 ·have h1d:decide (2≤k)=false:=decide_eq_false h1
  have HR:Hid ((decide (2≤k)&&decide (k≤8))=false):=by unfold Hid;rw [h1d];rfl
  rw [HR.out]
  go_enter Tryz.func25,Tryz.ntmps25
  go_wp2_with fail
  go_ret
  exact ⟨rfl,(Ok.refl w).alloc _⟩
set_option maxRecDepth 100000 in
set_option maxHeartbeats 4000000 in
theorem zc7 (v:Value) (ns:List Nd) (p:Nat) (w:World) (h:SNds w v ns) (hl:ns.length≤1000000) :
  Calls Tryz.prog 24 #[v,.int .i64 (p:Nat)] w fun e w'=>e=.returned (.int .i64 (ptF ns p:Nat))∧Ok w w':=by
 have HN:=hid h
 obtain ⟨_,ao,cap,rfl,_⟩:=h
 obtain ⟨r,hr⟩:∃ x,x=ptF ns p:=⟨_,rfl⟩
 have HRR:Hid (r=ptF ns p):=hr
 rw [←hr]
 clear hr
 go_enter Tryz.func24,Tryz.ntmps24
 go_wp2_with fail
 go_loopw [5,6] (fun n i wr=>∃ k:Nat,n=.int .i64 (ptF ns k:Nat)∧i=.int .i64 (k:Nat)∧k≤p∧k≤ns.length∧Hid (Ok w wr)) (fun _ i _=>ns.length-(intOf i).toNat)
 case atStart=>exact ⟨0,rfl,rfl,Nat.zero_le _,Nat.zero_le _,Ok.refl _⟩
 case round =>
  obtain ⟨k,rfl,rfl,hkp,hkl,HK⟩:=hrel
  by_cases h1:k<p
  ·have h1':(k:Int)<(p:Int):=za4 h1
   have h1d:decide ((k:Int)<(p:Int))=true:=decide_eq_true h1'
   have h1n:decide (k<p)=true:=decide_eq_true h1
   by_cases h2:k<ns.length
   ·have h2':(k:Int)<(ns.length:Int):=za4 h2
    have h2d:decide ((k:Int)<(ns.length:Int))=true:=decide_eq_true h2'
    have h2n:decide (k<ns.length)=true:=decide_eq_true h2
    obtain ⟨n,hn⟩:∃ n,ns[k]?=some n:=⟨_,List.getElem?_eq_getElem h2⟩
    obtain ⟨_,ao',cap',e1,_,_,hN⟩:=HN.out
    injection e1 with e1 e2 e3;clear e2
    subst e1 e3
    obtain ⟨b,o,rfl,N1⟩:=hN.resolve_left (fun e=>by rw [e] at h2;simp at h2)
    have M1:=N1.below HK.out
    obtain ⟨c0,c1,c2,c3,c4,c5⟩:=M1.get hn
    have lb:=M1.lt
    have hq:=zx4 hn
    have hle:=zn3 ns k
    obtain ⟨q,hqq⟩:∃ q,q=ptF ns k:=⟨_,rfl⟩
    rw [←hqq] at hq hle ⊢
    have hqw:IntKind.i64.wrap ((q:Int)+1)=((q+1:Nat):Int):=zb0 (by omega)
    have hkw:IntKind.i64.wrap ((k:Int)+1)=((k+1:Nat):Int):=zb0 (by omega)
    obtain ⟨nd,nk,nm,nu,no,nps⟩:=n
    simp only at c0 c1 c2 c3 c4 c5 hq
    have hst:stepB ⟨nd,nk,nm,nu,no,nps⟩=(decide (2≤nk)&&decide (nk≤8)):=rfl
    rw [hst] at hq
    cases hs:(decide (2≤nk)&&decide (nk≤8)) with
    | true =>
     have HQ:Hid (ptF ns (k+1)=q+1):=by unfold Hid;rw [hq,hs];rfl
     have HS:Hid ((decide (2≤nk)&&decide (nk≤8))=true):=hs
     clear hq hs hst M1 N1 hN hqq hn
     go_wp2_with (first
      | (go_at_call 25;refine (zn8 _ _ _ _ _ _ _).mono ?_;rintro e w1 ⟨rfl,hk1⟩;have HK1:Hid (Ok w w1):=HK.out.step hk1;rw [HS.out];clear hk1)
      | fail)
     go_roundw
     case rel=>exact ⟨k+1,by rw [HQ.out];rfl,rfl,h1,h2,HK1.out⟩
     case measure=>simp only [intOf,Int.toNat_natCast];omega
    | false =>
     have HQ:Hid (ptF ns (k+1)=q):=by unfold Hid;rw [hq,hs];rfl
     have HS:Hid ((decide (2≤nk)&&decide (nk≤8))=false):=hs
     clear hq hs hst M1 N1 hN hqq hn
     go_wp2_with (first
      | (go_at_call 25;refine (zn8 _ _ _ _ _ _ _).mono ?_;rintro e w1 ⟨rfl,hk1⟩;have HK1:Hid (Ok w w1):=HK.out.step hk1;rw [HS.out];clear hk1)
      | fail)
     go_roundw
     case rel=>exact ⟨k+1,by rw [HQ.out],rfl,h1,h2,HK1.out⟩
     case measure=>simp only [intOf,Int.toNat_natCast];omega
   ·have h2':¬(k:Int)<(ns.length:Int):=za9 h2
    have h2d:decide ((k:Int)<(ns.length:Int))=false:=decide_eq_false h2'
    have h2n:decide (k<ns.length)=false:=decide_eq_false h2
    have HQ:Hid (ptF ns k=r):=by
     unfold Hid;rw [HRR.out];unfold ptF
     rw [List.take_of_length_le (by omega),List.take_of_length_le (by omega)]
    go_wp2_with fail
    go_ret
    exact ⟨by rw [←HQ.out];rfl,HK.out⟩
  ·have h1':¬(k:Int)<(p:Int):=za9 h1
   have h1d:decide ((k:Int)<(p:Int))=false:=decide_eq_false h1'
   have h1n:decide (k<p)=false:=decide_eq_false h1
   have HQ:Hid (ptF ns k=r):=by unfold Hid;rw [HRR.out,show k=p by omega]
   go_wp2_with fail
   go_ret
   exact ⟨by rw [←HQ.out];rfl,HK.out⟩
set_option maxRecDepth 100000 in
set_option maxHeartbeats 4000000 in
theorem zf2 (v:Value) (ns:List Nd) (p:Nat) (w:World) (h:SNds w v ns) (hp:p<ns.length) (hl:ns.length≤1000000) :
  Calls Tryz.prog 70 #[v,.int .i64 (p:Nat)] w fun e w'=>e=.returned (.int .i64 (endF ns p:Nat))∧Ok w w':=by
 obtain ⟨_,ao,cap,rfl,_,_,hN⟩:=h
 obtain ⟨b,o,rfl,N1⟩:=hN.resolve_left (fun e=>by rw [e] at hp;simp at hp)
 have HN:Hid (NodesAt w b o ns):=N1
 clear N1 hN
 obtain ⟨en,hen⟩:∃ x,x=endF ns p:=⟨_,rfl⟩
 rw [←hen]
 have hpw:IntKind.i64.wrap ((p:Int)+1)=((p+1:Nat):Int):=zb0 (by omega)
 have hpl:(p:Int)<(ns.length:Int):=za4 hp
 have HE:Hid (en=p+1+runP (depA ns p) (ns.drop (p+1))):=hen
 obtain ⟨np,hnp⟩:∃ n,ns[p]?=some n:=⟨_,List.getElem?_eq_getElem hp⟩
 have HD:Hid (depA ns p=np.depth):=by unfold Hid depA;rw [hnp];rfl
 have HNP:Hid (ns[p]?=some np):=hnp
 clear hnp
 have HPL:=hid hp
 clear hen
 go_enter Tryz.func70,Tryz.ntmps70
 go_wp2_with fail
 go_loopw [5] (fun t wr=>∃ k:Nat,k≤ns.length∧t=.int .i64 (k:Nat)∧Hid (en=k+runP (depA ns p) (ns.drop k))∧Hid (Ok w wr)) (fun t _=>((ns.length:Int)-intOf t).toNat)
 case atStart=>exact ⟨p+1,hp,rfl,HE,Ok.refl _⟩
 case round =>
  obtain ⟨k,hk,rfl,HR,HV⟩:=hrel
  have M1:=HN.out.below HV.out
  have lt1:=M1.lt
  by_cases hkl:k<ns.length
  ·have hkl':(k:Int)<(ns.length:Int):=za4 hkl
   have hkl2:decide (k<ns.length)=true:=decide_eq_true hkl
   have hkw:IntKind.i64.wrap ((k:Int)+1)=((k+1:Nat):Int):=zb0 (by omega)
   obtain ⟨nk,hnk⟩:∃ n,ns[k]?=some n:=⟨_,List.getElem?_eq_getElem hkl⟩
   have c0:=(M1.get hnk).1
   have d0:=(M1.get HNP.out).1
   have hr:=HR.out
   rw [zB5 (depA ns p) hnk,HD.out] at hr
   have HDP:Hid (depA ns p=np.depth):=HD.out
   clear hnk
   generalize np.depth=dp at *
   generalize nk.depth=dk at *
   have hr':=hr
   clear hr
   by_cases hd:dp<dk
   ·have HR2:Hid (en=k+1+runP (depA ns p) (ns.drop (k+1))):=by unfold Hid;rw [hr',if_pos hd,HDP.out];omega
    clear hr' HR M1
    have hd2:decide (dp<dk)=true:=decide_eq_true hd
    go_wp2_with fail
    go_quiet (fail)
    go_wp2_with fail
    go_roundw
    case rel=>exact ⟨k+1,hkl,rfl,HR2,HV.out.draws _⟩
    case measure=>exact meas hkl
   ·have HR2:Hid (en=k):=by unfold Hid;rw [hr',if_neg hd];rfl
    clear hr' HR M1
    have hd2:decide (dp<dk)=false:=decide_eq_false hd
    go_wp2_with fail
    go_quiet (fail)
    go_wp2_with fail
    go_ret
    exact ⟨by rw [HR2.out];rfl,HV.out.draws _⟩
  ·have hkl':¬(k:Int)<(ns.length:Int):=za9 hkl
   have hkl2:decide (k<ns.length)=false:=decide_eq_false hkl
   have HR2:Hid (en=k):=by
    have hr:=HR.out
    rw [List.drop_eq_nil_of_le (by omega)] at hr
    exact hr
   clear HR M1
   go_wp2_with fail
   go_quiet (fail)
   go_wp2_with fail
   go_ret
   exact ⟨by rw [HR2.out];rfl,HV.out.draws _⟩
end
section
open Go.RowKit
def hdA (d:Int) (ns:List Nd):Nat→Int
 | 0 => -1
 | j+1=>if depA ns j<d then (j:Int) else hdA d ns j
def hdF (ns:List Nd) (i:Nat):Int:=hdA (depA ns i) ns i
set_option maxRecDepth 100000 in
set_option maxHeartbeats 4000000 in
theorem zb8 (v:Value) (ns:List Nd) (p:Nat) (w:World) (h:SNds w v ns) (hp:p<ns.length) (hl:ns.length≤1000000) :
  Calls Tryz.prog 71 #[v,.int .i64 (p:Nat)] w fun e w'=>e=.returned (.int .i64 (hdF ns p))∧Ok w w':=by
 obtain ⟨_,ao,cap,rfl,_,_,hN⟩:=h
 obtain ⟨b,o,rfl,N1⟩:=hN.resolve_left (fun e=>by rw [e] at hp;simp at hp)
 have HN:Hid (NodesAt w b o ns):=N1
 clear N1 hN
 obtain ⟨r,hr⟩:∃ x,x=hdF ns p:=⟨_,rfl⟩
 rw [←hr]
 have HE:Hid (r=hdA (depA ns p) ns p):=hr
 have hpl:(p:Int)<(ns.length:Int):=za4 hp
 obtain ⟨np,hnp⟩:∃ n,ns[p]?=some n:=⟨_,List.getElem?_eq_getElem hp⟩
 have HD:Hid (depA ns p=np.depth):=by unfold Hid depA;rw [hnp];rfl
 have HNP:Hid (ns[p]?=some np):=hnp
 have hpw:IntKind.i64.wrap ((p:Int)-1)=(p:Int)-1:=by rw [IntKind.wrap_i64];omega
 have hpw2:wrap64 ((p:Int)-1)=(p:Int)-1:=by unfold wrap64;omega
 clear hnp hr
 have HPL:Hid (p<ns.length∧ns.length≤1000000):=⟨hp,hl⟩
 go_enter Tryz.func71,Tryz.ntmps71
 go_wp2_with fail
 clear hpw hpw2
 go_loopw [5] (fun t wr=>∃ k:Nat,t=.int .i64 ((k:Int)-1)∧k≤p∧Hid (r=hdA (depA ns p) ns k)∧Hid (Ok w wr)) (fun t _=>(intOf t+1).toNat)
 case atStart=>exact ⟨p,rfl,Nat.le_refl _,HE.out,Ok.refl _⟩
 case round =>
  obtain ⟨k,rfl,hk,HR,HK⟩:=hrel
  have M1:=HN.out.below HK.out
  have lb:=M1.lt
  cases k with
  | zero =>
   have e:((0:Nat):Int)-1 = -1:=by omega
   rw [e]
   have HQ:Hid (r = -1):=HR.out
   clear HR M1
   go_wp2_with fail
   go_ret
   exact ⟨by rw [HQ.out];rfl,HK.out⟩
  | succ k =>
   have e:((k+1:Nat):Int)-1=(k:Int):=by omega
   rw [e]
   have hkl:k<ns.length:=by omega
   have hkl':(k:Int)<(ns.length:Int):=za4 hkl
   have hk0:(0:Int)≤(k:Int):=by omega
   obtain ⟨nk,hnk⟩:∃ n,ns[k]?=some n:=⟨_,List.getElem?_eq_getElem hkl⟩
   have c0:=(M1.get hnk).1
   have d0:=(M1.get HNP.out).1
   have hdk:depA ns k=nk.depth:=by unfold depA;rw [hnk];rfl
   have hr:=HR.out
   rw [hdA,hdk,HD.out] at hr
   have HDP:Hid (depA ns p=np.depth):=HD.out
   clear hnk hdk HR
   generalize np.depth=dp at *
   generalize nk.depth=dk at *
   have hkw:IntKind.i64.wrap ((k:Int)-1)=(k:Int)-1:=by rw [IntKind.wrap_i64];omega
   have hkw2:wrap64 ((k:Int)-1)=(k:Int)-1:=by unfold wrap64;omega
   by_cases hd:dk<dp
   ·have HQ:Hid (r=(k:Int)):=by unfold Hid;rw [hr,if_pos hd]
    have hd2:decide (dk<dp)=true:=decide_eq_true hd
    clear hr M1
    go_wp2_with fail
    go_quiet (fail)
    go_wp2_with fail
    go_ret
    exact ⟨by rw [HQ.out];rfl,HK.out.draws _⟩
   ·have HQ:Hid (r=hdA (depA ns p) ns k):=by unfold Hid;rw [hr,if_neg hd,HDP.out]
    have hd2:decide (dk<dp)=false:=decide_eq_false hd
    clear hr M1
    go_wp2_with fail
    go_quiet (fail)
    go_wp2_with fail
    go_roundw
    case rel=>exact ⟨k,rfl,by omega,HQ.out,HK.out.draws _⟩
    case measure=>simp only [intOf];omega
end
section
open Go.RowKit
def kidF (ns:List Nd) (en:Nat):Nat→Nat→List Nat
 | 0,_=>[]
 | f+1,j=>if j<en then j::kidF ns en f (endF ns j) else []
def hlF (ns:List Nd) (p:Nat):List Nat:=kidF ns (endF ns p) (ns.length+2) (p+1)
def inL (l:List Nat):List Value:=l.map fun j=>Value.int IntKind.i64 (j:Nat)
def KdSem (ns:List Nd) (p:Nat) (l:List Nat) (j:Nat):Prop:=∃ f,ns.length+1-j≤f∧hlF ns p=l++kidF ns (endF ns p) f j
theorem KdSem.step {ns:List Nd} {p j:Nat} {l:List Nat} (h:KdSem ns p l j) (hj:j<endF ns p) (hl:j<ns.length):KdSem ns p (l++[j]) (endF ns j):=by
 obtain ⟨f,h1,e⟩:=h
 obtain ⟨f2,rfl⟩:∃ f2,f=f2+1:=⟨f-1,by omega⟩
 have hlo:j<endF ns j:=by unfold endF;omega
 refine ⟨f2,by omega,?_⟩
 rw [e,kidF,if_pos hj,List.append_assoc];rfl
theorem KdSem.fin {ns:List Nd} {p j:Nat} {l:List Nat} (h:KdSem ns p l j) (hj:¬j<endF ns p):hlF ns p=l:=by
 obtain ⟨f,_,e⟩:=h
 rw [e]
 cases f with
 | zero=>rw [kidF,List.append_nil]
 | succ f=>rw [kidF,if_neg hj,List.append_nil]
set_option maxRecDepth 100000 in
set_option maxHeartbeats 4000000 in
theorem zt2 (v:Value) (ns:List Nd) (p:Nat) (w:World) (h:SNds w v ns) (hp:p<ns.length) (hl:ns.length≤1000) :
  Calls Tryz.prog 43 #[v,.int .i64 (p:Nat)] w fun e w'=>∃ v',e=.returned v'∧w'.ownsRow w.heap.size 3 1 v' (hlF ns p).length (inL (hlF ns p))∧Ok w w':=by
 have HN:=hid h
 have HP:Hid (p<ns.length∧ns.length≤1000):=⟨hp,hl⟩
 obtain ⟨_,ao,cap,rfl,_⟩:=h
 obtain ⟨en,hen⟩:∃ x,x=endF ns p:=⟨_,rfl⟩
 have HEN:Hid (en=endF ns p∧en≤ns.length):=⟨hen,by rw [hen];exact (ze4 hp).2⟩
 have hpw:IntKind.i64.wrap ((p:Int)+1)=((p+1:Nat):Int):=zb0 (by omega)
 obtain ⟨B,hB⟩:∃ x,x=w.heap.size:=⟨_,rfl⟩
 have HB:Hid (B=w.heap.size):=hB
 clear hen hp hl hB
 go_enter Tryz.func43,Tryz.ntmps43
 go_wp2_with fail
 go_loopw [5,6] (fun t i wr=>∃ (j:Nat) (l:List Nat) (vv:Value),t=vv∧i=.int .i64 (j:Nat)∧j≤ns.length+1∧p+1≤j∧Hid (wr.ownsRow B 3 1 vv l.length (inL l))∧Hid (KdSem ns p l j∧l.length+(p+1)≤j)∧Hid (Ok w wr)) (fun _ i _=>ns.length+1-(intOf i).toNat)
 case atStart=>exact ⟨p+1,[],.slice none 0 0,rfl,rfl,by have:=HP.out;omega,Nat.le_refl _,World.ownsRow_nil _ _ _ _,⟨⟨ns.length+2,by omega,rfl⟩,by simp⟩,Ok.refl _⟩
 case round =>
  obtain ⟨j,l,vv,rfl,rfl,hj1,hj2,HO,HS,HK⟩:=hrel
  obtain ⟨vo,vc,hvv⟩:=za0 HO.out
  subst hvv
  by_cases hje:j<en
  ·have hje':(j:Int)<(en:Int):=za4 hje
   have hjl:j<ns.length:=by have:=HEN.out;omega
   obtain ⟨nx,hnx⟩:∃ x,x=endF ns j:=⟨_,rfl⟩
   have HNX:Hid (nx=endF ns j∧j<nx∧nx≤ns.length):=⟨hnx,by rw [hnx];exact (ze4 hjl).1,by rw [hnx];exact (ze4 hjl).2⟩
   have HJL:Hid (j<ns.length∧j<en):=⟨hjl,hje⟩
   obtain ⟨q,hq⟩:∃ x,x=l.length:=⟨_,rfl⟩
   have HQ:Hid (q=l.length∧q≤1000):=⟨hq,by rw [hq];have h1:=HS.out.2;have h2:=HP.out;omega⟩
   rw [←hq]
   have HO2:Hid (wr.ownsRow B 3 1 (.slice vo q vc) q (inL l)):=by unfold Hid;rw [hq];exact HO.out
   have HSL:Hid (∀ W,Ok w W→SNds W (.slice ao ns.length cap) ns):=fun W hW=>HN.out.below hW
   clear hnx hq HO
   go_wp2_with (first
    | (go_at_call_of 70 ((p:Int));refine (zf2 _ ns p _ (HSL.out _ HK.out) HP.out.1 (by have:=HP.out;omega)).mono ?_;rintro e w1 ⟨rfl,hk1⟩;have HK1:Hid (Ok wr w1):=hk1;rw [←HEN.out.1];clear hk1)
    | (at_builtin;refine zb3 rfl _ _ 25 3 1 8 _ rfl Tryz.underlying25 infFI (by rfl) (by decide) (by decide) B (.slice vo q vc) q (inL l) (by rfl) (World.ownsRow.alloc (za1 HO2.out HK1.out) _) (.slice (some ⟨w1.heap.size,0,none⟩) 1 1) 1 [.int .i64 (j:Nat)] (by rfl) (SL.one _ _ _ (by rfl) (by simp [Value.oneCell'])) (by have:=HQ.out;omega) (by have h1:=HB.out;have h2:=HK.out.le;have h3:=HK1.out.le;simp;omega) ?_;intro v' w2 k1 k2;have HK2:Hid (Ok w w2):=((HK.out.step HK1.out).alloc _).grown k2 (fun b e=>by have h1:=(HO2.out.lt b e).1;have h2:=HB.out;omega);have HO3:Hid (w2.ownsRow B 3 1 v' (q+1) (inL l++[.int .i64 (j:Nat)])):=k1;obtain ⟨xo,xc,rfl⟩:=za0 k1;clear k1 k2)
    | (go_at_call_of 70 ((j:Int));refine (zf2 _ ns j _ (HSL.out _ HK2.out) HJL.out.1 (by have:=HP.out;omega)).mono ?_;rintro e w3 ⟨rfl,hk3⟩;have HK3:Hid (Ok w w3):=HK2.out.step hk3;have HO4:Hid (w3.ownsRow B 3 1 (.slice xo (q+1) xc) (q+1) (inL l++[.int .i64 (j:Nat)])):=za1 HO3.out hk3;rw [←HNX.out.1];clear hk3)
    | fail)
   go_roundw
   case rel=>exact ⟨nx,l++[j],_,rfl,rfl,by have:=HNX.out;omega,by have:=HNX.out;omega,by have h1:=HO4.out;rw [HQ.out.1] at h1;unfold Hid inL;rw [List.length_append,List.map_append];rw [HQ.out.1];exact h1,⟨by rw [HNX.out.1];exact HS.out.1.step (by rw [←HEN.out.1];exact HJL.out.2) HJL.out.1,by have h1:=HS.out.2;have h2:=HNX.out;rw [List.length_append];simp only [List.length_cons,List.length_nil];omega⟩,HK3.out⟩
   case measure=>have h1:=HNX.out;simp only [intOf,Int.toNat_natCast];omega
  ·have hje':¬(j:Int)<(en:Int):=za9 hje
   have HF:Hid (hlF ns p=l):=HS.out.1.fin (by rw [←HEN.out.1];exact hje)
   have HSL:Hid (∀ W,Ok w W→SNds W (.slice ao ns.length cap) ns):=fun W hW=>HN.out.below hW
   go_wp2_with (first
    | (go_at_call 70;refine (zf2 _ ns p _ (HSL.out _ HK.out) HP.out.1 (by have:=HP.out;omega)).mono ?_;rintro e w1 ⟨rfl,hk1⟩;have HK1:Hid (Ok wr w1):=hk1;rw [←HEN.out.1];clear hk1)
    | fail)
   go_ret
   exact ⟨_,rfl,by rw [HF.out,←HB.out];exact za1 HO.out HK1.out,HK.out.step HK1.out⟩
end
section
open Go.RowKit
theorem zq3 (d:Int) (ns:List Nd):∀ j,(hdA d ns j = -1∧∀ x,x<j→d≤depA ns x)∨(∃ g:Nat,hdA d ns j=g∧g<j∧depA ns g<d∧∀ x,g<x→x<j→d≤depA ns x)
 | 0=>.inl ⟨rfl,fun x h=>by omega⟩
 | j+1=>by
  rw [hdA]
  by_cases c:depA ns j<d
  ·rw [if_pos c]
   exact .inr ⟨j,rfl,by omega,c,fun x h1 h2=>by omega⟩
  ·rw [if_neg c]
   rcases zq3 d ns j with ⟨e,h⟩ | ⟨g,e,h1,h2,h3⟩
   ·refine .inl ⟨e,fun x hx=>?_⟩
    by_cases ex:x=j
    ·rw [ex];omega
    ·exact h x (by omega)
   ·refine .inr ⟨g,e,by omega,h2,fun x hx1 hx2=>?_⟩
    by_cases ex:x=j
    ·rw [ex];omega
    ·exact h3 x hx1 (by omega)
theorem zx9 {ns:List Nd} (h:TreeOK ns) {i:Nat} (hi:i<ns.length):(depA ns i=1∧hdF ns i = -1)∨(∃ g:Nat,hdF ns i=g∧g<i∧depA ns i=depA ns g+1∧i<endF ns g):=by
 have h0:depA ns 0=1:=by rw [zc8 (List.getElem?_eq_getElem (show 0<ns.length by omega))];exact h.shp.first (by omega)
 have hd1:=h.dep hi
 rcases zq3 (depA ns i) ns i with ⟨e,hx⟩ | ⟨g,e,h1,h2,h3⟩
 ·refine .inl ⟨?_,e⟩
  by_cases c:i=0
  ·rw [c];exact h0
  ·have:=hx 0 (by omega);omega
 ·have hgl:g<ns.length:=by omega
  have hst:=h.step (p:=g) (by omega)
  have hdg:depA ns i=depA ns g+1:=by
   by_cases c:g+1=i
   ·rw [c] at hst;omega
   ·have:=h3 (g+1) (by omega) (by omega);omega
  refine .inr ⟨g,e,h1,hdg,?_⟩
  rcases Nat.lt_or_ge i (endF ns g) with c | c
  ·exact c
  ·exfalso
   have hlo:=ze7 (ns:=ns) (p:=g)
   have hn:=zf4 (ns:=ns) (p:=g) (by omega)
   by_cases ex:endF ns g=i
   ·rw [ex] at hn;omega
   ·have:=h3 (endF ns g) hlo (by omega);omega
theorem hd_of {ns:List Nd} (h:TreeOK ns) {i g:Nat} (h1:g<i) (h2:i<endF ns g) (h3:depA ns i=depA ns g+1):hdF ns i=(g:Int):=by
 have hi:=(zc1 h1 h2).2
 have hdg:=h.dep (show g<ns.length by omega)
 rcases zx9 h hi with ⟨e,_⟩ | ⟨g',e,k1,k2,k3⟩
 ·omega
 ·rcases Nat.lt_trichotomy g g' with c | c | c
  ·have:=(zc1 (ns:=ns) (p:=g) (q:=g') c (by omega)).1;omega
  ·rw [c];exact e
  ·have:=(zc1 (ns:=ns) (p:=g') (q:=g) c (by omega)).1;omega
theorem yc7 {k c:Nat} (hk:k<16) (h:nextD k c=2):k=9:=by
 by_cases e:k=9
 ·exact e
 ·exfalso
  have:∀ j:Fin 16,(j:Nat)≠9→rH0 j≠2∧rH1 j≠2∧rH2 j≠2:=by decide
  have:=this ⟨k,hk⟩ e
  unfold nextD at h
  rw [if_neg e] at h
  split at h
  ·exact this.1 h
  ·split at h
   ·exact this.2.1 h
   ·split at h
    ·exact this.2.2 h
    ·omega
theorem zM4 {k c:Nat} (hk:k<16) (h:nextD k c=3):k=7∨k=8:=by
 have:∀ j:Fin 16,(rH0 j=3∨rH1 j=3∨rH2 j=3)→(j:Nat)=7∨(j:Nat)=8:=by decide
 refine this ⟨k,hk⟩ ?_
 unfold nextD at h
 split at h
 ·omega
 ·split at h
  ·exact .inl h
  ·split at h
   ·exact .inr (.inl h)
   ·split at h
    ·exact .inr (.inr h)
    ·omega
theorem yh7 {ns:List Nd} (h:TreeOK ns) {i:Nat} (hi:i<ns.length) (hk:2≤kdA ns i∧kdA ns i≤8):hdF ns i = -1∨∃ a g:Nat,hdF ns i=a∧a<i∧i<endF ns a∧kdA ns a=9∧depA ns i=depA ns a+1∧hdF ns a=g∧g<a∧a<endF ns g∧depA ns a=depA ns g+1∧(kdA ns g=7∨kdA ns g=8):=by
 rcases zx9 h hi with ⟨_,e⟩ | ⟨a,e,a1,a2,a3⟩
 ·exact .inl e
 ·have hal:a<ns.length:=by omega
  obtain ⟨c,hc⟩:=h.kid a1 a3 a2
  have k1:=h.kd hi
  have k2:=h.kd hal
  have hs:=(zk9 (k:=(kdA ns i).toNat) (by omega)).2.1.2 (by omega)
  rw [hs] at hc
  have h9:=yc7 (by omega) hc.symm
  have ka:kdA ns a=9:=by omega
  rcases zx9 h hal with ⟨e2,_⟩ | ⟨g,e2,b1,b2,b3⟩
  ·exfalso
   have ht:=h.top ns[a] (List.getElem_mem hal) (by rw [←zc8 (List.getElem?_eq_getElem hal)];exact e2)
   rw [←zd6 (List.getElem?_eq_getElem hal),ka] at ht
   rcases ht with ht | ht<;>exact absurd ht (by decide)
  ·obtain ⟨c2,hc2⟩:=h.kid b1 b3 b2
   have k3:=h.kd (show g<ns.length by omega)
   rw [ka] at hc2
   have h7:=zM4 (by omega) (show nextD (kdA ns g).toNat c2=3 from hc2.symm)
   exact .inr ⟨a,g,e,a1,a3,ka,a2,e2,b1,b3,b2,by omega⟩
def bhF (ns:List Nd):Nat→Nat→Nat
 | 0,_=>0
 | f+1,i =>
  if endF ns i<ns.length∧depA ns (endF ns i)=depA ns i∧kdA ns (endF ns i)≠9 then ptF ns (endF ns i)
  else if hdF ns i<0 then ptF ns ns.length
  else if kdA ns (hdF ns (hdF ns i).toNat).toNat=8 then ptF ns (hdF ns (hdF ns i).toNat).toNat
  else bhF ns f (hdF ns (hdF ns i).toNat).toNat
def bgR (ns:List Nd) (f i:Nat):Nat :=
 if i+1<ns.length∧depA ns (i+1)=depA ns i+1 then ptF ns (i+1)
 else if kdA ns (hdF ns i).toNat=8 then ptF ns (hdF ns i).toNat else bhF ns f (hdF ns i).toNat
end
end Go.Proofs.YtgobgdljckamkaaGreatDoor
