import Derived.Test.YtgobgdljckamkaaGreatDoorKTd
set_option linter.unusedVariables false
set_option linter.unusedSimpArgs false
set_option linter.unnecessarySimpa false
namespace Go.Proofs.YtgobgdljckamkaaGreatDoor
section
open Go.RowKit
theorem hd_lt {ns:List Nd} {i:Nat} (h:¬hdF ns i<0):(hdF ns (hdF ns i).toNat).toNat<i:=by
 rcases zq3 (depA ns i) ns i with ⟨e,_⟩ | ⟨g,e,h1,_⟩
 ·exfalso;unfold hdF at h;omega
 ·have e':hdF ns i=g:=e
  rw [e',Int.toNat_natCast]
  rcases zq3 (depA ns g) ns g with ⟨e2,_⟩ | ⟨g2,e2,h2,_⟩
  ·have:hdF ns g = -1:=e2
   rw [this];show 0<i;omega
  ·have:hdF ns g=g2:=e2
   rw [this,Int.toNat_natCast];omega
theorem yc8 {ns:List Nd}:∀ (i f f':Nat),i<f→i<f'→bhF ns f i=bhF ns f' i:=by
 intro i
 induction i using Nat.strongRecOn with
 | ind i ih =>
  intro f f' h1 h2
  obtain ⟨f,rfl⟩:∃ g,f=g+1:=⟨f-1,by omega⟩
  obtain ⟨f',rfl⟩:∃ g,f'=g+1:=⟨f'-1,by omega⟩
  rw [bhF,bhF]
  split
  ·rfl
  ·split
   ·rfl
   ·next hn =>
    split
    ·rfl
    ·have:=hd_lt hn
     exact ih _ this _ _ (by omega) (by omega)
def BH (ns:List Nd) (i:Nat):Nat:=bhF ns (ns.length+1) i
def BG (ns:List Nd) (i:Nat):Nat:=bgR ns (ns.length+1) i
theorem BH_eq {ns:List Nd} {i:Nat} (hi:i<ns.length):BH ns i=if endF ns i<ns.length∧depA ns (endF ns i)=depA ns i∧kdA ns (endF ns i)≠9 then ptF ns (endF ns i) else if hdF ns i<0 then ptF ns ns.length else if kdA ns (hdF ns (hdF ns i).toNat).toNat=8 then ptF ns (hdF ns (hdF ns i).toNat).toNat else BH ns (hdF ns (hdF ns i).toNat).toNat:=by
 unfold BH
 rw [bhF]
 split
 ·rfl
 ·split
  ·rfl
  ·next hn =>
   split
   ·rfl
   ·have:=hd_lt hn
    exact yc8 _ _ _ (by omega) (by omega)
def elR (ns:List Nd) (i:Nat):List Ed :=
 if kdA ns i=7∨kdA ns i=8 then
  [⟨ptF ns i,BG ns ((hlF ns i).getD 1 0),5,((hlF ns i).getD 0 0:Nat),true,decide (kdA ns i=8)⟩,
  ⟨ptF ns i,(if (hlF ns i).length=3 then BG ns ((hlF ns i).getD 2 0) else BH ns i:Nat),5,((hlF ns i).getD 0 0:Nat),false,decide (kdA ns i=8)⟩]
 else [⟨ptF ns i,BH ns i,kdA ns i-2,i,false,false⟩]
def stR (ns:List Nd) (i:Nat):List Ed:=if 2≤kdA ns i∧kdA ns i≤8 then elR ns i else []
def rng (ns:List Nd) (p:Nat):Nat→List Ed
 | 0=>[]
 | k+1=>rng ns p k++stR ns (p+k)
theorem zV6 (ns:List Nd) (p x:Nat):∀ y,rng ns p (x+y)=rng ns p x++rng ns (p+x) y
 | 0=>by rw [Nat.add_zero,rng,List.append_nil]
 | y+1=>by
  show rng ns p (x+y)++stR ns (p+(x+y))=_
  rw [zV6 ns p x y,rng,List.append_assoc,Nat.add_assoc]
def rgE (ns:List Nd) (p en:Nat):List Ed:=rng ns p (en-p)
theorem zg1 {ns:List Nd} {p x en:Nat} (h1:p≤x) (h2:x≤en):rgE ns p en=rgE ns p x++rgE ns x en:=by
 unfold rgE
 rw [show en-p=(x-p)+(en-x) by omega,zV6,show p+(x-p)=x by omega]
theorem zH8 {ns:List Nd} {p:Nat}:∀ k,(∀ r,p≤r→r<p+k→¬(2≤kdA ns r∧kdA ns r≤8))→rng ns p k=[]
 | 0,_=>rfl
 | k+1,h=>by rw [rng,zH8 k (fun r h1 h2=>h r h1 (by omega)),stR,if_neg (h (p+k) (by omega) (by omega))];rfl
theorem zk0 {ns:List Nd} {p en:Nat} (h:∀ r,p≤r→r<en→¬(2≤kdA ns r∧kdA ns r≤8)):rgE ns p en=[]:=zH8 _ (fun r h1 h2=>h r h1 (by omega))
theorem zF0 {ns:List Nd} {p:Nat} (h:2≤kdA ns p∧kdA ns p≤8):rgE ns p (p+1)=elR ns p:=by
 unfold rgE
 rw [Nat.add_sub_cancel_left,rng,rng,List.nil_append,Nat.add_zero,stR,if_pos h]
theorem ye2 {ns:List Nd} (h:TreeOK ns) {p:Nat} (hp:p<ns.length) (hk:kdA ns p=7∨kdA ns p=8) :
  (endF ns (endF ns (p+1))=endF ns p∧hlF ns p=[p+1,endF ns (p+1)])∨(endF ns (endF ns (p+1))<endF ns p∧hlF ns p=[p+1,endF ns (p+1),endF ns (endF ns (p+1))]):=by
 obtain ⟨t1,t2,t3,t4,t5,t6⟩:=h.two hp hk
 have hlo:=ze7 (ns:=ns) (p:=p+1)
 have hle:=(ze4 hp).2
 unfold hlF
 obtain ⟨f,hf⟩:∃ f,ns.length+2=f+1+1+1+1:=⟨ns.length-2,by omega⟩
 rw [hf,kidF,if_pos (by omega),kidF,if_pos t2]
 rcases t6 with e | ⟨_,e1,_,_,e4⟩
 ·left
  refine ⟨e,?_⟩
  rw [kidF,if_neg (by omega)]
 ·right
  refine ⟨e1,?_⟩
  rw [kidF,if_pos e1,kidF,if_neg (by omega)]
theorem BG_eq {ns:List Nd} (h:TreeOK ns) {p a:Nat} (hk:kdA ns p=7∨kdA ns p=8) (h1:p<a) (h2:a<endF ns p) (h3:depA ns a=depA ns p+1):BG ns a=bgF ns (a+1) (endF ns a) (if kdA ns p=8 then ptF ns p else BH ns p):=by
 have hal:=(zc1 h1 h2).2
 unfold BG bgR
 rw [hd_of h h1 h2 h3,Int.toNat_natCast]
 by_cases c:a+1<endF ns a
 ·have hd:=zc1 (ns:=ns) (p:=a) (q:=a+1) (by omega) c
  have hs:=h.step hd.2
  rw [if_pos ⟨hd.2,by omega⟩,zt0 c]
 ·have hlo:=ze7 (ns:=ns) (p:=a)
  rw [if_neg,zu2 c]
  ·rfl
  ·rintro ⟨k1,k2⟩
   have e:endF ns a=a+1:=by omega
   have:=zf4 (ns:=ns) (p:=a) (by omega)
   rw [e] at this
   omega
theorem zV7 {ns:List Nd} (h:TreeOK ns) {p a q:Nat} (hk:kdA ns p=7∨kdA ns p=8) (h1:p<a) (h2:a<endF ns p) (h3:depA ns a=depA ns p+1) (k1:a<q) (k2:q<endF ns a) (k3:depA ns q=depA ns a+1) (k4:endF ns q=endF ns a):BH ns q=if kdA ns p=8 then ptF ns p else BH ns p:=by
 have hql:=(zc1 k1 k2).2
 rw [BH_eq hql,if_neg,hd_of h k1 k2 k3,if_neg (by omega),Int.toNat_natCast,hd_of h h1 h2 h3,Int.toNat_natCast]
 rintro ⟨c1,c2,_⟩
 rw [k4] at c1 c2
 have:=zf4 (ns:=ns) (p:=a) c1
 omega
theorem zy0 {ns:List Nd} (h:TreeOK ns):∀ (f p en fol:Nat) (D:Int),Stretch ns D p en→ns.length+2-p≤f→p≤en→(∀ q,p≤q→q<en→endF ns q=en→depA ns q=D→BH ns q=fol)→stE ns f p en fol=rgE ns p en
 | 0,p,en,fol,D,hS,hf,hpe,_=>by
  by_cases hp:p<en
  ·have:=(hS hp).1;omega
  ·have e:p=en:=by omega
   subst e
   rw [zj8 hp,zk0 (fun r h1 h2=>by omega)]
 | f+1,p,en,fol,D,hS,hf,hpe,hF=>by
  by_cases hp:p<en
  rotate_left
  ·have e:p=en:=by omega
   subst e
   rw [zj8 hp,zk0 (fun r h1 h2=>by omega)]
  obtain ⟨h1,h2,h3,h4,h5⟩:=hS hp
  obtain ⟨hle,hS'⟩:=hS.next hp
  have hpl:p<ns.length:=by omega
  have hlo:=ze7 (ns:=ns) (p:=p)
  have k8:=h4 p (Nat.le_refl _) hp h2
  have kd0:=h.kd hpl
  have IH:=zy0 h f (endF ns p) en fol D hS' (by omega) hle (fun q a b=>hF q (by omega) b)
  obtain ⟨nx,hnx⟩:∃ x,x=bgF ns (endF ns p) en fol:=⟨_,rfl⟩
  have hbx:nx=BH ns p:=by
   rw [hnx]
   by_cases c:endF ns p<en
   ·have hd:=hS' c
    have hx:=hd.2.2.2.1 (endF ns p) (Nat.le_refl _) c hd.2.1
    rw [zt0 c,BH_eq hpl]
    rw [if_pos]
    refine ⟨by omega,by rw [hd.2.1,h2],?_⟩
    omega
   ·rw [zu2 c]
    exact (hF p (Nat.le_refl _) hp (by omega) h2).symm
  rw [stE,if_pos hp,←hnx,zg1 (x:=endF ns p) (by omega) hle,IH]
  congr 1
  by_cases hc:kdA ns p=7∨kdA ns p=8
  ·rw [if_pos hc]
   obtain ⟨t1,t2,t3,t4,t5,t6⟩:=h.two hpl hc
   have hH:=ye2 h hpl hc
   obtain ⟨a,ha⟩:∃ x,x=endF ns (p+1):=⟨_,rfl⟩
   rw [←ha] at t2 t3 t5 t6 hH ⊢
   obtain ⟨s,hs⟩:∃ x,x=endF ns a:=⟨_,rfl⟩
   rw [←hs] at t6 hH ⊢
   have lpa:p+1<a:=by rw [ha];exact ze7
   have las:a<s:=by rw [hs];exact ze7
   have hel:endF ns p≤ns.length:=(ze4 hpl).2
   have hal:a<ns.length:=by omega
   have hsl:s≤ns.length:=by rw [hs];exact (ze4 hal).2
   have hse:s≤endF ns p:=by rcases t6 with e | ⟨_,e,_⟩<;>omega
   obtain ⟨bS,bK⟩:=h.block hal t5
   rw [←hs] at bS bK
   obtain ⟨bh,hbh⟩:∃ x,x=(if kdA ns p=8 then ptF ns p else nx):=⟨_,rfl⟩
   have F1:=zy0 h f (a+1) s bh (depA ns a+1) bS (by omega) (by omega) (fun q q1 q2 q3 q4=>by
    rw [hbh,hbx]
    exact zV7 h hc (by omega) t2 t3 (by omega) (by rw [←hs];exact q2) q4 (by rw [←hs];exact q3))
   have hch:chE ns p nx=[⟨ptF ns p,bgF ns (a+1) s bh,5,p+1,true,decide (kdA ns p=8)⟩,⟨ptF ns p,bgF ns (s+1) (endF ns p) nx,5,p+1,false,decide (kdA ns p=8)⟩]:=by
    unfold chE;rw [←ha,←hs,←hbh]
   have hBG:BG ns a=bgF ns (a+1) s bh:=by rw [BG_eq h hc (by omega) t2 t3,←hs,hbh,hbx]
   rw [←hbh,F1]
   have hpr:rgE ns p (a+1)=elR ns p:=by
    rw [zg1 (x:=p+1) (by omega) (by omega),zF0 (by omega),zk0 (p:=p+1),List.append_nil]
    intro r r1 r2
    by_cases e:r=p+1
    ·rw [e];omega
    ·by_cases e2:r=a
     ·rw [e2,t5];omega
     ·have:=h.plain (p:=p+1) t1 (.inr t4) r (by omega) (by rw [←ha];omega);omega
   rcases hH with ⟨e1,e2⟩ | ⟨e1,e2⟩
   ·have hE:elR ns p=chE ns p nx:=by
     unfold elR
     rw [if_pos hc,hch,e2,zu2 (show ¬s+1<endF ns p by omega),hbx]
     simp [hBG,hbx]
    rw [zj8 (show ¬s+1<endF ns p by omega),List.append_nil,←hE,←hpr,←e1]
    exact (zg1 (by omega) (by omega)).symm
   ·have hsl':s<ns.length:=by omega
    obtain ⟨k7,u2,u3,u4⟩:kdA ns p=7∧kdA ns s=9∧depA ns s=depA ns p+1∧endF ns s=endF ns p:=by
     rcases t6 with e | ⟨q1,q2,q3,q4,q5⟩
     ·omega
     ·exact ⟨q1,q3,q4,q5⟩
    obtain ⟨cS,cK⟩:=h.block hsl' u2
    rw [u4] at cS cK
    have F2:=zy0 h f (s+1) (endF ns p) nx (depA ns s+1) cS (by omega) (by omega) (fun q q1 q2 q3 q4=>by
     rw [hbx]
     have:=zV7 h hc (a:=s) (by omega) e1 u3 (by omega) (by rw [u4];exact q2) q4 (by rw [u4];exact q3)
     rw [if_neg (by omega)] at this
     exact this)
    have hBG2:BG ns s=bgF ns (s+1) (endF ns p) nx:=by
     have:=BG_eq h hc (a:=s) (by omega) e1 u3
     rw [u4,if_neg (by omega),←hbx] at this
     exact this
    have hE:elR ns p=chE ns p nx:=by
     unfold elR
     rw [if_pos hc,hch,e2]
     simp [hBG,hBG2]
    have hss:rgE ns s (s+1)=[]:=zk0 (fun r r1 r2=>by rw [show r=s by omega,u2];omega)
    rw [F2,←hE,←hpr,zg1 (p:=p) (x:=a+1) (en:=endF ns p) (by omega) (by omega),zg1 (p:=a+1) (x:=s) (en:=endF ns p) (by omega) (by omega),zg1 (p:=s) (x:=s+1) (en:=endF ns p) (by omega) (by omega),hss]
    rfl
  ·rw [if_neg hc]
   have hin:∀ q,p<q→q<endF ns p→10≤kdA ns q:=h.plain hpl (.inl (by omega))
   have hrest:rgE ns (p+1) (endF ns p)=[]:=zk0 (fun r r1 r2=>by have:=hin r (by omega) r2;omega)
   rw [zg1 (x:=p+1) (by omega) (by omega),hrest,List.append_nil]
   by_cases hk:2≤kdA ns p∧kdA ns p≤6
   ·rw [if_pos hk,zF0 ⟨hk.1,by omega⟩]
    unfold elR
    rw [if_neg hc,hbx]
   ·rw [if_neg hk]
    exact (zk0 (fun r r1 r2=>by rw [show r=p by omega];omega)).symm
theorem yh8 {ns:List Nd} (h:TreeOK ns):elF ns=rgE ns 0 ns.length:=by
 refine zy0 h _ _ _ _ 1 h.whole (by omega) (Nat.zero_le _) (fun q _ q2 q3 q4=>?_)
 rw [BH_eq q2,if_neg (by omega)]
 rcases zx9 h q2 with ⟨_,e⟩ | ⟨g,e,g1,g2,g3⟩
 ·rw [e,if_pos (by omega)]
 ·have:=h.dep (show g<ns.length by omega);omega
end
section
open Go.RowKit
set_option maxRecDepth 100000 in
set_option maxHeartbeats 8000000 in
theorem zg3 (v:Value) (ns:List Nd) (hT:TreeOK ns) (hl:ns.length≤1000):∀ (i:Nat) (w:World),SNds w v ns→i<ns.length→(2≤kdA ns i∧kdA ns i≤8) →
  Calls Tryz.prog 42 #[v,.int .i64 (i:Nat)] w fun e w'=>e=.returned (.int .i64 (BH ns i:Nat))∧Ok w w':=by
 intro i
 induction i using Nat.strongRecOn with
 | ind i ih =>
  intro w h hi hk
  have IH:Hid (∀ g,g<i→∀ W,Ok w W→(2≤kdA ns g∧kdA ns g≤8)→Calls Tryz.prog 42 #[v,.int .i64 (g:Nat)] W fun e w'=>e=.returned (.int .i64 (BH ns g:Nat))∧Ok W w'):=fun g hg W hW hkg=>ih g hg W (h.below hW) (by omega) hkg
  have HSN:Hid (∀ W,Ok w W→SNds W v ns):=fun W hW=>h.below hW
  clear ih
  obtain ⟨_,ao,cap,rfl,_,_,hN⟩:=h
  obtain ⟨b,o,rfl,N1⟩:=hN.resolve_left (fun e=>by rw [e] at hi;simp at hi)
  have HN:Hid (NodesAt w b o ns):=N1
  have HI:Hid (i<ns.length∧ns.length≤1000):=⟨hi,hl⟩
  have HST:Hid _:=yh7 hT hi hk
  clear N1 hN
  obtain ⟨r,hr⟩:∃ x,x=BH ns i:=⟨_,rfl⟩
  rw [←hr]
  rw [BH_eq hi] at hr
  obtain ⟨en,hen⟩:∃ x,x=endF ns i:=⟨_,rfl⟩
  rw [←hen] at hr
  have HEN:Hid (en=endF ns i):=hen
  have hi2:(i:Int)<(ns.length:Int):=za4 hi
  obtain ⟨ni,hni⟩:∃ n,ns[i]?=some n:=⟨_,List.getElem?_eq_getElem hi⟩
  have HNI:Hid (ns[i]?=some ni):=hni
  rw [zc8 hni] at hr
  clear hen hni hk
  by_cases h1:en<ns.length
  ·have h1':(en:Int)<(ns.length:Int):=za4 h1
   have h1d:decide ((en:Int)<(ns.length:Int))=true:=decide_eq_true h1'
   have h1n:decide (en<ns.length)=true:=decide_eq_true h1
   obtain ⟨nj,hnj⟩:∃ n,ns[en]?=some n:=⟨_,List.getElem?_eq_getElem h1⟩
   have HNJ:Hid (ns[en]?=some nj):=hnj
   rw [zc8 hnj,zd6 hnj] at hr
   clear hnj
   by_cases h2:nj.depth=ni.depth
   ·have h2d:decide (nj.depth=ni.depth)=true:=decide_eq_true h2
    by_cases h3:nj.kind=9
    ·have h3d:decide (nj.kind=9)=true:=decide_eq_true h3
     rw [if_neg (fun h=>h.2.2 h3)] at hr
     have HT:Hid _:=hr
     clear hr
     rcases HST.out with e0 | ⟨a,g,e0,a1,a2,a3,a4,e5,b1,b2,b3,b4⟩
     ·have HA:Hid (hdF ns i = -1):=e0
      have HQ:Hid (r=ptF ns ns.length):=by unfold Hid;rw [HT.out,e0,if_pos (by omega)]
      clear e0 HT HST
      go_enter Tryz.func42,Tryz.ntmps42
      go_wp2_with (first
       | (go_at_call 70;refine (zf2 _ ns i _ (HSN.out _ (Ok.refl _)) HI.out.1 (by have:=HI.out;omega)).mono ?_;rintro e w1 ⟨rfl,hk1⟩;have HK1:Hid (Ok w w1):=hk1;rw [←HEN.out];have M1:=HN.out.below hk1;have lb1:=M1.lt;have c0:=(M1.get HNJ.out).1;have c1:=(M1.get HNJ.out).2.1;have d0:=(M1.get HNI.out).1;clear M1 hk1)
       | fail)
      go_quiet (fail)
      go_wp2_with (first
       | (go_at_call_of 71 ((i:Int));refine (zb8 _ ns i _ (HSN.out _ (HK1.out.draws _)) HI.out.1 (by have:=HI.out;omega)).mono ?_;rintro e w2 ⟨rfl,hk2⟩;have HK2:Hid (Ok w w2):=(HK1.out.draws _).step hk2;rw [HA.out];clear hk2)
       | (go_at_call 24;refine (zc7 _ ns ns.length _ (HSN.out _ (HK2.out)) (by have:=HI.out;omega)).mono ?_;rintro e w9 ⟨rfl,hk9⟩;have HK9:Hid (Ok w w9):=(HK2.out).step hk9;clear hk9)
       | fail)
      go_ret
      exact ⟨by rw [HQ.out];rfl,HK9.out⟩
     ·have HA:Hid (hdF ns i=(a:Int)):=e0
      have HG:Hid (hdF ns a=(g:Int)):=e5
      have hal:a<ns.length:=by have:=HI.out.1;omega
      have hgl:g<ns.length:=by omega
      have hgl2:(g:Int)<(ns.length:Int):=za4 hgl
      have ha0:¬(a:Int)<0:=by omega
      obtain ⟨ng,hng⟩:∃ n,ns[g]?=some n:=⟨_,List.getElem?_eq_getElem hgl⟩
      have HGN:Hid (ns[g]?=some ng):=hng
      have HGK:Hid (kdA ns g=ng.kind):=zd6 hng
      have HAG:Hid (a<ns.length∧g<i∧(2≤kdA ns g∧kdA ns g≤8)):=⟨hal,by omega,by omega⟩
      have ht:=HT.out
      rw [e0,if_neg ha0,Int.toNat_natCast,e5,Int.toNat_natCast,HGK.out] at ht
      clear HT HST e0 e5 a1 a2 a3 a4 b1 b2 b3 b4 hng
      by_cases h8:ng.kind=8
      ·have h8d:decide (ng.kind=8)=true:=decide_eq_true h8
       have HQ:Hid (r=ptF ns g):=by unfold Hid;rw [ht,if_pos h8]
       clear ht
       go_enter Tryz.func42,Tryz.ntmps42
       go_wp2_with (first
        | (go_at_call 70;refine (zf2 _ ns i _ (HSN.out _ (Ok.refl _)) HI.out.1 (by have:=HI.out;omega)).mono ?_;rintro e w1 ⟨rfl,hk1⟩;have HK1:Hid (Ok w w1):=hk1;rw [←HEN.out];have M1:=HN.out.below hk1;have lb1:=M1.lt;have c0:=(M1.get HNJ.out).1;have c1:=(M1.get HNJ.out).2.1;have d0:=(M1.get HNI.out).1;clear M1 hk1)
        | fail)
       go_quiet (fail)
       go_wp2_with (first
        | (go_at_call_of 71 ((i:Int));refine (zb8 _ ns i _ (HSN.out _ (HK1.out.draws _)) HI.out.1 (by have:=HI.out;omega)).mono ?_;rintro e w2 ⟨rfl,hk2⟩;have HK2:Hid (Ok w w2):=(HK1.out.draws _).step hk2;rw [HA.out];clear hk2)
        | (go_at_call_of 71 ((a:Int));refine (zb8 _ ns a _ (HSN.out _ HK2.out) HAG.out.1 (by have:=HI.out;omega)).mono ?_;rintro e w3 ⟨rfl,hk3⟩;have HK3:Hid (Ok w w3):=HK2.out.step hk3;rw [HG.out];have M3:=HN.out.below HK3.out;have lb3:=M3.lt;have g1:=(M3.get HGN.out).2.1;clear M3 hk3)
        | (go_at_call 24;refine (zc7 _ ns g _ (HSN.out _ (HK3.out)) (by have:=HI.out;omega)).mono ?_;rintro e w9 ⟨rfl,hk9⟩;have HK9:Hid (Ok w w9):=(HK3.out).step hk9;clear hk9)
        | fail)
       go_ret
       exact ⟨by rw [HQ.out];rfl,HK9.out⟩
      ·have h8d:decide (ng.kind=8)=false:=decide_eq_false h8
       have HQ:Hid (r=BH ns g):=by unfold Hid;rw [ht,if_neg h8]
       clear ht
       go_enter Tryz.func42,Tryz.ntmps42
       go_wp2_with (first
        | (go_at_call 70;refine (zf2 _ ns i _ (HSN.out _ (Ok.refl _)) HI.out.1 (by have:=HI.out;omega)).mono ?_;rintro e w1 ⟨rfl,hk1⟩;have HK1:Hid (Ok w w1):=hk1;rw [←HEN.out];have M1:=HN.out.below hk1;have lb1:=M1.lt;have c0:=(M1.get HNJ.out).1;have c1:=(M1.get HNJ.out).2.1;have d0:=(M1.get HNI.out).1;clear M1 hk1)
        | fail)
       go_quiet (fail)
       go_wp2_with (first
        | (go_at_call_of 71 ((i:Int));refine (zb8 _ ns i _ (HSN.out _ (HK1.out.draws _)) HI.out.1 (by have:=HI.out;omega)).mono ?_;rintro e w2 ⟨rfl,hk2⟩;have HK2:Hid (Ok w w2):=(HK1.out.draws _).step hk2;rw [HA.out];clear hk2)
        | (go_at_call_of 71 ((a:Int));refine (zb8 _ ns a _ (HSN.out _ HK2.out) HAG.out.1 (by have:=HI.out;omega)).mono ?_;rintro e w3 ⟨rfl,hk3⟩;have HK3:Hid (Ok w w3):=HK2.out.step hk3;rw [HG.out];have M3:=HN.out.below HK3.out;have lb3:=M3.lt;have g1:=(M3.get HGN.out).2.1;clear M3 hk3)
        | (go_at_call 42;refine (IH.out g HAG.out.2.1 _ HK3.out HAG.out.2.2).mono ?_;rintro e w9 ⟨rfl,hk9⟩;have HK9:Hid (Ok w w9):=HK3.out.step hk9;clear hk9)
        | fail)
       go_ret
       exact ⟨by rw [HQ.out];rfl,HK9.out⟩
    ·have h3d:decide (nj.kind=9)=false:=decide_eq_false h3
     rw [if_pos ⟨h1,h2,h3⟩] at hr
     have HQ:Hid _:=hr
     clear hr HST
     go_enter Tryz.func42,Tryz.ntmps42
     go_wp2_with (first
      | (go_at_call 70;refine (zf2 _ ns i _ (HSN.out _ (Ok.refl _)) HI.out.1 (by have:=HI.out;omega)).mono ?_;rintro e w1 ⟨rfl,hk1⟩;have HK1:Hid (Ok w w1):=hk1;rw [←HEN.out];have M1:=HN.out.below hk1;have lb1:=M1.lt;have c0:=(M1.get HNJ.out).1;have c1:=(M1.get HNJ.out).2.1;have d0:=(M1.get HNI.out).1;clear M1 hk1)
      | fail)
     go_quiet (fail)
     go_wp2_with (first
      | (go_at_call 24;refine (zc7 _ ns en _ (HSN.out _ (HK1.out.draws _)) (by have:=HI.out;omega)).mono ?_;rintro e w9 ⟨rfl,hk9⟩;have HK9:Hid (Ok w w9):=(HK1.out.draws _).step hk9;clear hk9)
      | fail)
     go_ret
     exact ⟨by rw [HQ.out];rfl,HK9.out⟩
   ·have h2d:decide (nj.depth=ni.depth)=false:=decide_eq_false h2
    rw [if_neg (fun h=>h2 h.2.1)] at hr
    have HT:Hid _:=hr
    clear hr
    rcases HST.out with e0 | ⟨a,g,e0,a1,a2,a3,a4,e5,b1,b2,b3,b4⟩
    ·have HA:Hid (hdF ns i = -1):=e0
     have HQ:Hid (r=ptF ns ns.length):=by unfold Hid;rw [HT.out,e0,if_pos (by omega)]
     clear e0 HT HST
     go_enter Tryz.func42,Tryz.ntmps42
     go_wp2_with (first
      | (go_at_call 70;refine (zf2 _ ns i _ (HSN.out _ (Ok.refl _)) HI.out.1 (by have:=HI.out;omega)).mono ?_;rintro e w1 ⟨rfl,hk1⟩;have HK1:Hid (Ok w w1):=hk1;rw [←HEN.out];have M1:=HN.out.below hk1;have lb1:=M1.lt;have c0:=(M1.get HNJ.out).1;have c1:=(M1.get HNJ.out).2.1;have d0:=(M1.get HNI.out).1;clear M1 hk1)
      | fail)
     go_quiet (fail)
     go_wp2_with (first
      | (go_at_call_of 71 ((i:Int));refine (zb8 _ ns i _ (HSN.out _ (HK1.out.draws _)) HI.out.1 (by have:=HI.out;omega)).mono ?_;rintro e w2 ⟨rfl,hk2⟩;have HK2:Hid (Ok w w2):=(HK1.out.draws _).step hk2;rw [HA.out];clear hk2)
      | (go_at_call 24;refine (zc7 _ ns ns.length _ (HSN.out _ (HK2.out)) (by have:=HI.out;omega)).mono ?_;rintro e w9 ⟨rfl,hk9⟩;have HK9:Hid (Ok w w9):=(HK2.out).step hk9;clear hk9)
      | fail)
     go_ret
     exact ⟨by rw [HQ.out];rfl,HK9.out⟩
    ·have HA:Hid (hdF ns i=(a:Int)):=e0
     have HG:Hid (hdF ns a=(g:Int)):=e5
     have hal:a<ns.length:=by have:=HI.out.1;omega
     have hgl:g<ns.length:=by omega
     have hgl2:(g:Int)<(ns.length:Int):=za4 hgl
     have ha0:¬(a:Int)<0:=by omega
     obtain ⟨ng,hng⟩:∃ n,ns[g]?=some n:=⟨_,List.getElem?_eq_getElem hgl⟩
     have HGN:Hid (ns[g]?=some ng):=hng
     have HGK:Hid (kdA ns g=ng.kind):=zd6 hng
     have HAG:Hid (a<ns.length∧g<i∧(2≤kdA ns g∧kdA ns g≤8)):=⟨hal,by omega,by omega⟩
     have ht:=HT.out
     rw [e0,if_neg ha0,Int.toNat_natCast,e5,Int.toNat_natCast,HGK.out] at ht
     clear HT HST e0 e5 a1 a2 a3 a4 b1 b2 b3 b4 hng
     by_cases h8:ng.kind=8
     ·have h8d:decide (ng.kind=8)=true:=decide_eq_true h8
      have HQ:Hid (r=ptF ns g):=by unfold Hid;rw [ht,if_pos h8]
      clear ht
      go_enter Tryz.func42,Tryz.ntmps42
      go_wp2_with (first
       | (go_at_call 70;refine (zf2 _ ns i _ (HSN.out _ (Ok.refl _)) HI.out.1 (by have:=HI.out;omega)).mono ?_;rintro e w1 ⟨rfl,hk1⟩;have HK1:Hid (Ok w w1):=hk1;rw [←HEN.out];have M1:=HN.out.below hk1;have lb1:=M1.lt;have c0:=(M1.get HNJ.out).1;have c1:=(M1.get HNJ.out).2.1;have d0:=(M1.get HNI.out).1;clear M1 hk1)
       | fail)
      go_quiet (fail)
      go_wp2_with (first
       | (go_at_call_of 71 ((i:Int));refine (zb8 _ ns i _ (HSN.out _ (HK1.out.draws _)) HI.out.1 (by have:=HI.out;omega)).mono ?_;rintro e w2 ⟨rfl,hk2⟩;have HK2:Hid (Ok w w2):=(HK1.out.draws _).step hk2;rw [HA.out];clear hk2)
       | (go_at_call_of 71 ((a:Int));refine (zb8 _ ns a _ (HSN.out _ HK2.out) HAG.out.1 (by have:=HI.out;omega)).mono ?_;rintro e w3 ⟨rfl,hk3⟩;have HK3:Hid (Ok w w3):=HK2.out.step hk3;rw [HG.out];have M3:=HN.out.below HK3.out;have lb3:=M3.lt;have g1:=(M3.get HGN.out).2.1;clear M3 hk3)
       | (go_at_call 24;refine (zc7 _ ns g _ (HSN.out _ (HK3.out)) (by have:=HI.out;omega)).mono ?_;rintro e w9 ⟨rfl,hk9⟩;have HK9:Hid (Ok w w9):=(HK3.out).step hk9;clear hk9)
       | fail)
      go_ret
      exact ⟨by rw [HQ.out];rfl,HK9.out⟩
     ·have h8d:decide (ng.kind=8)=false:=decide_eq_false h8
      have HQ:Hid (r=BH ns g):=by unfold Hid;rw [ht,if_neg h8]
      clear ht
      go_enter Tryz.func42,Tryz.ntmps42
      go_wp2_with (first
       | (go_at_call 70;refine (zf2 _ ns i _ (HSN.out _ (Ok.refl _)) HI.out.1 (by have:=HI.out;omega)).mono ?_;rintro e w1 ⟨rfl,hk1⟩;have HK1:Hid (Ok w w1):=hk1;rw [←HEN.out];have M1:=HN.out.below hk1;have lb1:=M1.lt;have c0:=(M1.get HNJ.out).1;have c1:=(M1.get HNJ.out).2.1;have d0:=(M1.get HNI.out).1;clear M1 hk1)
       | fail)
      go_quiet (fail)
      go_wp2_with (first
       | (go_at_call_of 71 ((i:Int));refine (zb8 _ ns i _ (HSN.out _ (HK1.out.draws _)) HI.out.1 (by have:=HI.out;omega)).mono ?_;rintro e w2 ⟨rfl,hk2⟩;have HK2:Hid (Ok w w2):=(HK1.out.draws _).step hk2;rw [HA.out];clear hk2)
       | (go_at_call_of 71 ((a:Int));refine (zb8 _ ns a _ (HSN.out _ HK2.out) HAG.out.1 (by have:=HI.out;omega)).mono ?_;rintro e w3 ⟨rfl,hk3⟩;have HK3:Hid (Ok w w3):=HK2.out.step hk3;rw [HG.out];have M3:=HN.out.below HK3.out;have lb3:=M3.lt;have g1:=(M3.get HGN.out).2.1;clear M3 hk3)
       | (go_at_call 42;refine (IH.out g HAG.out.2.1 _ HK3.out HAG.out.2.2).mono ?_;rintro e w9 ⟨rfl,hk9⟩;have HK9:Hid (Ok w w9):=HK3.out.step hk9;clear hk9)
       | fail)
      go_ret
      exact ⟨by rw [HQ.out];rfl,HK9.out⟩
  ·have h1':¬(en:Int)<(ns.length:Int):=za9 h1
   have h1d:decide ((en:Int)<(ns.length:Int))=false:=decide_eq_false h1'
   have h1n:decide (en<ns.length)=false:=decide_eq_false h1
   rw [if_neg (fun h=>h1 h.1)] at hr
   have HT:Hid _:=hr
   clear hr
   rcases HST.out with e0 | ⟨a,g,e0,a1,a2,a3,a4,e5,b1,b2,b3,b4⟩
   ·have HA:Hid (hdF ns i = -1):=e0
    have HQ:Hid (r=ptF ns ns.length):=by unfold Hid;rw [HT.out,e0,if_pos (by omega)]
    clear e0 HT HST
    go_enter Tryz.func42,Tryz.ntmps42
    go_wp2_with (first
     | (go_at_call 70;refine (zf2 _ ns i _ (HSN.out _ (Ok.refl _)) HI.out.1 (by have:=HI.out;omega)).mono ?_;rintro e w1 ⟨rfl,hk1⟩;have HK1:Hid (Ok w w1):=hk1;rw [←HEN.out];have M1:=HN.out.below hk1;have lb1:=M1.lt;clear M1 hk1)
     | fail)
    go_quiet (fail)
    go_wp2_with (first
     | (go_at_call_of 71 ((i:Int));refine (zb8 _ ns i _ (HSN.out _ (HK1.out.draws _)) HI.out.1 (by have:=HI.out;omega)).mono ?_;rintro e w2 ⟨rfl,hk2⟩;have HK2:Hid (Ok w w2):=(HK1.out.draws _).step hk2;rw [HA.out];clear hk2)
     | (go_at_call 24;refine (zc7 _ ns ns.length _ (HSN.out _ (HK2.out)) (by have:=HI.out;omega)).mono ?_;rintro e w9 ⟨rfl,hk9⟩;have HK9:Hid (Ok w w9):=(HK2.out).step hk9;clear hk9)
     | fail)
    go_ret
    exact ⟨by rw [HQ.out];rfl,HK9.out⟩
   ·have HA:Hid (hdF ns i=(a:Int)):=e0
    have HG:Hid (hdF ns a=(g:Int)):=e5
    have hal:a<ns.length:=by have:=HI.out.1;omega
    have hgl:g<ns.length:=by omega
    have hgl2:(g:Int)<(ns.length:Int):=za4 hgl
    have ha0:¬(a:Int)<0:=by omega
    obtain ⟨ng,hng⟩:∃ n,ns[g]?=some n:=⟨_,List.getElem?_eq_getElem hgl⟩
    have HGN:Hid (ns[g]?=some ng):=hng
    have HGK:Hid (kdA ns g=ng.kind):=zd6 hng
    have HAG:Hid (a<ns.length∧g<i∧(2≤kdA ns g∧kdA ns g≤8)):=⟨hal,by omega,by omega⟩
    have ht:=HT.out
    rw [e0,if_neg ha0,Int.toNat_natCast,e5,Int.toNat_natCast,HGK.out] at ht
    clear HT HST e0 e5 a1 a2 a3 a4 b1 b2 b3 b4 hng
    by_cases h8:ng.kind=8
    ·have h8d:decide (ng.kind=8)=true:=decide_eq_true h8
     have HQ:Hid (r=ptF ns g):=by unfold Hid;rw [ht,if_pos h8]
     clear ht
     go_enter Tryz.func42,Tryz.ntmps42
     go_wp2_with (first
      | (go_at_call 70;refine (zf2 _ ns i _ (HSN.out _ (Ok.refl _)) HI.out.1 (by have:=HI.out;omega)).mono ?_;rintro e w1 ⟨rfl,hk1⟩;have HK1:Hid (Ok w w1):=hk1;rw [←HEN.out];have M1:=HN.out.below hk1;have lb1:=M1.lt;clear M1 hk1)
      | fail)
     go_quiet (fail)
     go_wp2_with (first
      | (go_at_call_of 71 ((i:Int));refine (zb8 _ ns i _ (HSN.out _ (HK1.out.draws _)) HI.out.1 (by have:=HI.out;omega)).mono ?_;rintro e w2 ⟨rfl,hk2⟩;have HK2:Hid (Ok w w2):=(HK1.out.draws _).step hk2;rw [HA.out];clear hk2)
      | (go_at_call_of 71 ((a:Int));refine (zb8 _ ns a _ (HSN.out _ HK2.out) HAG.out.1 (by have:=HI.out;omega)).mono ?_;rintro e w3 ⟨rfl,hk3⟩;have HK3:Hid (Ok w w3):=HK2.out.step hk3;rw [HG.out];have M3:=HN.out.below HK3.out;have lb3:=M3.lt;have g1:=(M3.get HGN.out).2.1;clear M3 hk3)
      | (go_at_call 24;refine (zc7 _ ns g _ (HSN.out _ (HK3.out)) (by have:=HI.out;omega)).mono ?_;rintro e w9 ⟨rfl,hk9⟩;have HK9:Hid (Ok w w9):=(HK3.out).step hk9;clear hk9)
      | fail)
     go_ret
     exact ⟨by rw [HQ.out];rfl,HK9.out⟩
    ·have h8d:decide (ng.kind=8)=false:=decide_eq_false h8
     have HQ:Hid (r=BH ns g):=by unfold Hid;rw [ht,if_neg h8]
     clear ht
     go_enter Tryz.func42,Tryz.ntmps42
     go_wp2_with (first
      | (go_at_call 70;refine (zf2 _ ns i _ (HSN.out _ (Ok.refl _)) HI.out.1 (by have:=HI.out;omega)).mono ?_;rintro e w1 ⟨rfl,hk1⟩;have HK1:Hid (Ok w w1):=hk1;rw [←HEN.out];have M1:=HN.out.below hk1;have lb1:=M1.lt;clear M1 hk1)
      | fail)
     go_quiet (fail)
     go_wp2_with (first
      | (go_at_call_of 71 ((i:Int));refine (zb8 _ ns i _ (HSN.out _ (HK1.out.draws _)) HI.out.1 (by have:=HI.out;omega)).mono ?_;rintro e w2 ⟨rfl,hk2⟩;have HK2:Hid (Ok w w2):=(HK1.out.draws _).step hk2;rw [HA.out];clear hk2)
      | (go_at_call_of 71 ((a:Int));refine (zb8 _ ns a _ (HSN.out _ HK2.out) HAG.out.1 (by have:=HI.out;omega)).mono ?_;rintro e w3 ⟨rfl,hk3⟩;have HK3:Hid (Ok w w3):=HK2.out.step hk3;rw [HG.out];have M3:=HN.out.below HK3.out;have lb3:=M3.lt;have g1:=(M3.get HGN.out).2.1;clear M3 hk3)
      | (go_at_call 42;refine (IH.out g HAG.out.2.1 _ HK3.out HAG.out.2.2).mono ?_;rintro e w9 ⟨rfl,hk9⟩;have HK9:Hid (Ok w w9):=HK3.out.step hk9;clear hk9)
      | fail)
     go_ret
     exact ⟨by rw [HQ.out];rfl,HK9.out⟩
end
end Go.Proofs.YtgobgdljckamkaaGreatDoor
