import Derived.Test.YtgobgdljckamkaaGreatDoorKCddecl
namespace Go.Proofs.YtgobgdljckamkaaGreatDoor
open Go.RowKit
set_option linter.unusedVariables false
set_option linter.unusedSimpArgs false
def declaresV (kind num s a:Int) (ns na:Nat):Int :=
 if 0≤s∨0≤a then 40 else if kind=1∧(num<1∨16<num) then 43 else if kind=0∧8≤ns then 44 else if kind=1∧3≤na then 45 else 0
def declaresR (ns:List Nd) (n:Nd) (i:Nat):Int:=declaresV n.kind n.num (declOf ns 0 n.name.toList i).1 (declOf ns 1 n.name.toList i).1 (declOf ns 0 n.name.toList i).2 (declOf ns 1 n.name.toList i).2
theorem zb9 {a b:Int} (h:a=b):Ending.returned (.int .i64 a)=.returned (.int .i64 b):=by rw [h]
set_option maxHeartbeats 4000000 in
theorem zy7 (nb o cap i:Nat) (ns:List Nd) (w:World) (hi:i<ns.length) (hl:ns.length≤300) (h:NodesAt w nb o ns) :
  Calls Tryz.prog 86 #[.slice (some ⟨nb,o,none⟩) ns.length cap,.int .i64 i] w fun e w'=>e=.returned (.int .i64 (declaresR ns ns[i] i))∧Below w.heap.size w w':=by
 have c0:=h.c0 i hi
 have c1:=h.c1 i hi
 have c2:=h.c2 i hi
 have c3:=h.c3 i hi
 have c4:=h.c4 i hi
 have c5:=h.c5 i hi
 have hlt:=h.lt
 have hi1:(i:Int)<ns.length:=by omega
 have hl1:(ns.length:Int)≤300:=by omega
 have hne:¬nb=w.heap.size:=by omega
 obtain ⟨n,hn⟩:∃ n,ns[i]=n:=⟨_,rfl⟩
 rw [hn] at c0 c1 c2 c3 c4 c5 ⊢
 have HB:Hid (∀ ob,Below w.heap.size w (w.alloc ob)):=fun ob=>(Below.refl _ _).alloc (Nat.le_refl _) _
 obtain ⟨⟨s,sn⟩,hs⟩:∃ p,p=declOf ns 0 n.name.toList i:=⟨_,rfl⟩
 obtain ⟨⟨a,an⟩,ha⟩:∃ p,p=declOf ns 1 n.name.toList i:=⟨_,rfl⟩
 have HS:Hid (∀ w',Below w.heap.size w w'→Calls Tryz.prog 58 #[.slice (some ⟨nb,o,none⟩) ns.length cap,.int .i64 0,.string n.name,.int .i64 i] w' fun e w''=>e=.returned (.tuple #[.int .i64 s,.int .i64 sn])∧w''=w'):=fun w' hb=>by
  have:=zf8 nb o cap i 0 n.name ns w' (by omega) hl (.inl rfl) (h.below hb)
  rwa [←hs] at this
 have HA:Hid (∀ w',Below w.heap.size w w'→Calls Tryz.prog 58 #[.slice (some ⟨nb,o,none⟩) ns.length cap,.int .i64 1,.string n.name,.int .i64 i] w' fun e w''=>e=.returned (.tuple #[.int .i64 a,.int .i64 an])∧w''=w'):=fun w' hb=>by
  have:=zf8 nb o cap i 1 n.name ns w' (by omega) hl (.inr rfl) (h.below hb)
  rwa [←ha] at this
 have HE:Hid (declaresR ns n i=declaresV n.kind n.num s a sn an):=by unfold Hid declaresR;rw [←hs,←ha]
 rw [HE.out]
 clear h hn hs ha HE
 go_enter Tryz.func86,Tryz.ntmps86
 go_wp2_with fail
 refine (HS.out _ (HB.out _)).mono ?_
 rintro e w1 ⟨rfl,rfl⟩
 go_wp2_with fail
 refine (HA.out _ (HB.out _)).mono ?_
 rintro e w1 ⟨rfl,rfl⟩
 clear HS HA
 go_wp2
 all_goals
  go_ret
  refine ⟨zb9 ?_,HB.out _⟩
  clear HB c0 c1 c2 c3 c4 c5
  unfold declaresV
  repeat' split
 all_goals first
  | rfl
  | omega
  | (simp_all;done)
  | (simp_all;omega)
def faultV (n:Nd) (dec s a:Int) (want:Bool) (sites:Nat):Int :=
 if n.kind=0∨n.kind=1 then dec
 else if 0<namesR n∧s<0∧a<0 then 41
 else if 0<namesR n∧((namesR n==1) != decide (0≤s))=true then 42
 else if (numberR n && !want)||(condR n&&want) then 42 else if siteR n&&decide (12≤sites) then 46 else 0
theorem zh0 (n:Nd) {v:Bool} (h:numberR n=v) (w:World):Calls Tryz.prog 87 #[ndVal n] w fun e w'=>e=.returned (.bool v)∧Below w.heap.size w w':=by have:=zC5 n w;rwa [h] at this
theorem zg8 (n:Nd) {v:Bool} (h:condR n=v) (w:World):Calls Tryz.prog 89 #[ndVal n] w fun e w'=>e=.returned (.bool v)∧Below w.heap.size w w':=by have:=zO9 n w;rwa [h] at this
theorem zb5 (n:Nd) {v:Bool} (h:siteR n=v) (w:World):Calls Tryz.prog 59 #[ndVal n] w fun e w'=>e=.returned (.bool v)∧Below w.heap.size w w':=by have:=zP0 n w;rwa [h] at this
theorem zg5 (n:Nd) {v:Int} (h:namesR n=v) (w:World):Calls Tryz.prog 57 #[ndVal n] w fun e w'=>e=.returned (.int .i64 v)∧Below w.heap.size w w':=by have:=zJ8 n w;rwa [h] at this
theorem zv3 {n:Nd} (h:numberR n=true):condR n=false:=by
 revert h
 unfold numberR condR
 repeat' split
 all_goals simp_all
 all_goals omega
theorem NdC.new (w:World) (n:Nd):NdC (w.alloc (.cells #[.int .i64 n.depth,.int .i64 n.kind,.string n.name,.int .i64 n.num,.int .i64 n.op,.int .i64 n.pos] 31)) w.heap.size n :=
 ⟨by simp,by simp [go_sem],by simp [go_sem],by simp [go_sem],by simp [go_sem],by simp [go_sem],by simp [go_sem]⟩
set_option maxHeartbeats 8000000 in
theorem zN5 (nb o cap i sites:Nat) (ns:List Nd) (dec s a:Int) (want:Bool) (n:Nd) (w:World) (hi:i<ns.length) (hn:ns[i]=n) (hl:ns.length≤300) (hs12:sites≤300) (h:NodesAt w nb o ns)
  (hdec:declaresR ns n i=dec) (hs:(declOf ns 0 n.name.toList ns.length).1=s) (ha:(declOf ns 1 n.name.toList ns.length).1=a)
  (hwant:(numberR n||condR n)=true→∃ (k:Nat) (hk:k<ns.length),holdFrom ns n.depth i=k∧wantN ns[k]=want) :
  Calls Tryz.prog 56 #[.slice (some ⟨nb,o,none⟩) ns.length cap,.int .i64 i,.int .i64 sites] w fun e w'=>e=.returned (.int .i64 (faultV n dec s a want sites))∧Below w.heap.size w w':=by
 have c0:=h.c0 i hi
 have c1:=h.c1 i hi
 have c2:=h.c2 i hi
 have c3:=h.c3 i hi
 have c4:=h.c4 i hi
 have c5:=h.c5 i hi
 have hlt:=h.lt
 have hi1:(i:Int)<ns.length:=by omega
 have hl1:(ns.length:Int)≤300:=by omega
 have hne:¬nb=w.heap.size:=by omega
 rw [hn] at c0 c1 c2 c3 c4 c5
 have HNw:=hid h
 have HDEC:Hid (∀ w',Below w.heap.size w w'→Calls Tryz.prog 86 #[.slice (some ⟨nb,o,none⟩) ns.length cap,.int .i64 i] w' fun e w''=>e=.returned (.int .i64 dec)∧Below w'.heap.size w' w''):=fun w' hb=>by
  have:=zy7 nb o cap i ns w' hi hl (h.below hb)
  rwa [hn,hdec] at this
 have HDS:Hid (∀ w',Below w.heap.size w w'→Calls Tryz.prog 58 #[.slice (some ⟨nb,o,none⟩) ns.length cap,.int .i64 0,.string n.name,.int .i64 ns.length] w' fun e w''=>e=.returned (.tuple #[.int .i64 s,.int .i64 (declOf ns 0 n.name.toList ns.length).2])∧w''=w'):=fun w' hb=>by
  have:=zf8 nb o cap ns.length 0 n.name ns w' (Nat.le_refl _) hl (.inl rfl) (h.below hb)
  rwa [hs] at this
 have HDA:Hid (∀ w',Below w.heap.size w w'→Calls Tryz.prog 58 #[.slice (some ⟨nb,o,none⟩) ns.length cap,.int .i64 1,.string n.name,.int .i64 ns.length] w' fun e w''=>e=.returned (.tuple #[.int .i64 a,.int .i64 (declOf ns 1 n.name.toList ns.length).2])∧w''=w'):=fun w' hb=>by
  have:=zf8 nb o cap ns.length 1 n.name ns w' (Nat.le_refl _) hl (.inr rfl) (h.below hb)
  rwa [ha] at this
 have HW:Hid (∀ w',(numberR n||condR n)=true→∀ {v:Bool},want=v→Below w.heap.size w w'→Calls Tryz.prog 88 #[.slice (some ⟨nb,o,none⟩) ns.length cap,.int .i64 i] w' fun e w''=>e=.returned (.bool v)∧Below w'.heap.size w' w''):=fun w' hx v hv hb=>by
  obtain ⟨k,hk,h1,h2⟩:=hwant hx
  have:=zJ1 nb o cap i k ns w' hi hl (h.below hb) (by rw [hn];exact h1) hk
  rwa [h2,hv] at this
 obtain ⟨sn,hsn⟩:∃ x,x=(declOf ns 0 n.name.toList ns.length).2:=⟨_,rfl⟩
 obtain ⟨an,han⟩:∃ x,x=(declOf ns 1 n.name.toList ns.length).2:=⟨_,rfl⟩
 rw [←hsn] at HDS
 rw [←han] at HDA
 clear h hn hdec hs ha hwant hsn han
 have HB1:Hid (Below w.heap.size w (w.alloc (.cells #[.int .i64 n.depth,.int .i64 n.kind,.string n.name,.int .i64 n.num,.int .i64 n.op,.int .i64 n.pos] 31))):=(Below.refl _ _).alloc (Nat.le_refl _) _
 have HC1:Hid _:=NdC.new w n
 have HN1:Hid _:=HNw.out.below HB1.out
 by_cases k01:n.kind=0∨n.kind=1
 case pos =>
  have HE:Hid (faultV n dec s a want sites=dec):=by unfold Hid faultV;rw [if_pos k01]
  have key:∀ v:Int,n.kind=v→(v=0∨v=1)→True:=fun _ _ _=>trivial
  rcases k01 with k0 | k0
  all_goals
   rw [k0] at c1 HB1 HC1 HN1
   go_enter Tryz.func56,Tryz.ntmps56
   go_wp2_with fail
   refine (HDEC.out _ HB1.out).mono ?_
   rintro e w2 ⟨rfl,hb⟩
   have HB2:Hid (Below w.heap.size w w2):=HB1.out.trans (hb.mono HB1.out.size)
   clear hb
   go_wp2_with fail
   go_ret
   exact ⟨zb9 (by rw [HE.out]),HB2.out⟩
 have b0:(n.kind==0)=false:=by rw [beq_eq_false_iff_ne];exact fun e=>k01 (.inl e)
 have b1:(n.kind==1)=false:=by rw [beq_eq_false_iff_ne];exact fun e=>k01 (.inr e)
 have d0:¬n.kind=0:=fun e=>k01 (.inl e)
 have d1:¬n.kind=1:=fun e=>k01 (.inr e)
 obtain ⟨nm,hnm⟩:∃ x,namesR n=x:=⟨_,rfl⟩
 have hnm3:nm=0∨nm=1∨nm=2:=by
  rw [←hnm];unfold namesR;repeat' split
  all_goals simp
 go_enter Tryz.func56,Tryz.ntmps56
 go_wp2_with fail
 obtain ⟨w1,hw1⟩:∃ w1,w1=w.alloc (.cells #[.int .i64 n.depth,.int .i64 n.kind,.string n.name,.int .i64 n.num,.int .i64 n.op,.int .i64 n.pos] 31):=⟨_,rfl⟩
 rw [←hw1] at HB1 HC1 HN1
 rw [←hw1]
 clear hw1 c0 c1 c2 c3 c4 c5
 refine (zg5 n hnm _).mono ?_
 rintro e w2 ⟨rfl,hb⟩
 have HC2:Hid _:=HC1.out.below hb
 have HN2:Hid _:=HN1.out.below hb
 have HB2:Hid (Below w.heap.size w w2):=HB1.out.trans (hb.mono HB1.out.size)
 clear hb
 obtain ⟨_,c0,c1,c2,c3,c4,c5⟩:=HC2.out
 rcases hnm3 with rfl | hnm3
 ·have HF0:Hid (faultV n dec s a want sites=if (numberR n && !want)||(condR n&&want) then 42 else if siteR n&&decide (12≤sites) then 46 else 0):=by
   unfold Hid faultV;rw [if_neg k01,hnm];simp
  clear k01
  cases hM:numberR n
  case false =>
   go_wp2_with fail
   clear c0 c1 c2 c3 c4 c5
   refine (zh0 n hM _).mono ?_
   rintro e w2n ⟨rfl,hb⟩
   have HC2n:Hid _:=HC2.out.below hb
   have HN2n:Hid _:=HN2.out.below hb
   have HB2n:Hid (Below w.heap.size w w2n):=HB2.out.trans (hb.mono HB2.out.size)
   clear hb
   obtain ⟨_,c0,c1,c2,c3,c4,c5⟩:=HC2n.out
   cases hD:condR n
   case false =>
    have HF:Hid (faultV n dec s a want sites=if siteR n&&decide (12≤sites) then 46 else 0):=by unfold Hid;rw [HF0.out,hM,hD];rfl
    go_wp2_with fail
    clear c0 c1 c2 c3 c4 c5
    refine (zg8 n hD _).mono ?_
    rintro e w2c ⟨rfl,hb⟩
    have HC2c:Hid _:=HC2n.out.below hb
    have HN2c:Hid _:=HN2n.out.below hb
    have HB2c:Hid (Below w.heap.size w w2c):=HB2n.out.trans (hb.mono HB2n.out.size)
    clear hb
    obtain ⟨_,c0,c1,c2,c3,c4,c5⟩:=HC2c.out
    cases hS:siteR n
    case false =>
     have HE:Hid (faultV n dec s a want sites=0):=by unfold Hid;rw [HF.out,hS];rfl
     go_wp2_with fail
     clear c0 c1 c2 c3 c4 c5
     refine (zb5 n hS _).mono ?_
     rintro e w2cs ⟨rfl,hb⟩
     have HC2cs:Hid _:=HC2c.out.below hb
     have HN2cs:Hid _:=HN2c.out.below hb
     have HB2cs:Hid (Below w.heap.size w w2cs):=HB2c.out.trans (hb.mono HB2c.out.size)
     clear hb
     obtain ⟨_,c0,c1,c2,c3,c4,c5⟩:=HC2cs.out
     go_wp2_with fail
     go_ret
     exact ⟨zb9 (by rw [HE.out]),HB2cs.out⟩
    case true =>
     by_cases h12:12≤sites
     ·have h12i:12≤(sites:Int):=by omega
      have HE:Hid (faultV n dec s a want sites=46):=by unfold Hid;rw [HF.out,hS];simp [h12]
      go_wp2_with fail
      clear c0 c1 c2 c3 c4 c5
      refine (zb5 n hS _).mono ?_
      rintro e w2cs ⟨rfl,hb⟩
      have HC2cs:Hid _:=HC2c.out.below hb
      have HN2cs:Hid _:=HN2c.out.below hb
      have HB2cs:Hid (Below w.heap.size w w2cs):=HB2c.out.trans (hb.mono HB2c.out.size)
      clear hb
      obtain ⟨_,c0,c1,c2,c3,c4,c5⟩:=HC2cs.out
      go_wp2_with fail
      go_ret
      exact ⟨zb9 (by rw [HE.out]),HB2cs.out⟩
     ·have h12i:(sites:Int)<12:=by omega
      have h12d:decide (12≤(sites:Int))=false:=decide_eq_false (by omega)
      have HE:Hid (faultV n dec s a want sites=0):=by unfold Hid;rw [HF.out,hS];simp [h12]
      go_wp2_with fail
      clear c0 c1 c2 c3 c4 c5
      refine (zb5 n hS _).mono ?_
      rintro e w2cs ⟨rfl,hb⟩
      have HC2cs:Hid _:=HC2c.out.below hb
      have HN2cs:Hid _:=HN2c.out.below hb
      have HB2cs:Hid (Below w.heap.size w w2cs):=HB2c.out.trans (hb.mono HB2c.out.size)
      clear hb
      obtain ⟨_,c0,c1,c2,c3,c4,c5⟩:=HC2cs.out
      go_wp2_with fail
      go_ret
      exact ⟨zb9 (by rw [HE.out]),HB2cs.out⟩
   case true =>
    go_wp2_with fail
    clear c0 c1 c2 c3 c4 c5
    refine (zg8 n hD _).mono ?_
    rintro e w2c ⟨rfl,hb⟩
    have HC2c:Hid _:=HC2n.out.below hb
    have HN2c:Hid _:=HN2n.out.below hb
    have HB2c:Hid (Below w.heap.size w w2c):=HB2n.out.trans (hb.mono HB2n.out.size)
    clear hb
    obtain ⟨_,c0,c1,c2,c3,c4,c5⟩:=HC2c.out
    cases hW:want
    case false =>
     have HF:Hid (faultV n dec s a want sites=if siteR n&&decide (12≤sites) then 46 else 0):=by unfold Hid;rw [HF0.out,hM,hD,hW];rfl
     go_wp2_with fail
     clear c0 c1 c2 c3 c4 c5
     refine (HW.out _ (by simp [hD]) hW HB2c.out).mono ?_
     rintro e w2v ⟨rfl,hb⟩
     have HC2v:Hid _:=HC2c.out.below hb
     have HN2v:Hid _:=HN2c.out.below hb
     have HB2v:Hid (Below w.heap.size w w2v):=HB2c.out.trans (hb.mono HB2c.out.size)
     clear hb
     obtain ⟨_,c0,c1,c2,c3,c4,c5⟩:=HC2v.out
     cases hS:siteR n
     case false =>
      have HE:Hid (faultV n dec s a want sites=0):=by unfold Hid;rw [HF.out,hS];rfl
      go_wp2_with fail
      clear c0 c1 c2 c3 c4 c5
      refine (zb5 n hS _).mono ?_
      rintro e w2vs ⟨rfl,hb⟩
      have HC2vs:Hid _:=HC2v.out.below hb
      have HN2vs:Hid _:=HN2v.out.below hb
      have HB2vs:Hid (Below w.heap.size w w2vs):=HB2v.out.trans (hb.mono HB2v.out.size)
      clear hb
      obtain ⟨_,c0,c1,c2,c3,c4,c5⟩:=HC2vs.out
      go_wp2_with fail
      go_ret
      exact ⟨zb9 (by rw [HE.out]),HB2vs.out⟩
     case true =>
      by_cases h12:12≤sites
      ·have h12i:12≤(sites:Int):=by omega
       have HE:Hid (faultV n dec s a want sites=46):=by unfold Hid;rw [HF.out,hS];simp [h12]
       go_wp2_with fail
       clear c0 c1 c2 c3 c4 c5
       refine (zb5 n hS _).mono ?_
       rintro e w2vs ⟨rfl,hb⟩
       have HC2vs:Hid _:=HC2v.out.below hb
       have HN2vs:Hid _:=HN2v.out.below hb
       have HB2vs:Hid (Below w.heap.size w w2vs):=HB2v.out.trans (hb.mono HB2v.out.size)
       clear hb
       obtain ⟨_,c0,c1,c2,c3,c4,c5⟩:=HC2vs.out
       go_wp2_with fail
       go_ret
       exact ⟨zb9 (by rw [HE.out]),HB2vs.out⟩
      ·have h12i:(sites:Int)<12:=by omega
       have h12d:decide (12≤(sites:Int))=false:=decide_eq_false (by omega)
       have HE:Hid (faultV n dec s a want sites=0):=by unfold Hid;rw [HF.out,hS];simp [h12]
       go_wp2_with fail
       clear c0 c1 c2 c3 c4 c5
       refine (zb5 n hS _).mono ?_
       rintro e w2vs ⟨rfl,hb⟩
       have HC2vs:Hid _:=HC2v.out.below hb
       have HN2vs:Hid _:=HN2v.out.below hb
       have HB2vs:Hid (Below w.heap.size w w2vs):=HB2v.out.trans (hb.mono HB2v.out.size)
       clear hb
       obtain ⟨_,c0,c1,c2,c3,c4,c5⟩:=HC2vs.out
       go_wp2_with fail
       go_ret
       exact ⟨zb9 (by rw [HE.out]),HB2vs.out⟩
    case true =>
     have HE:Hid (faultV n dec s a want sites=42):=by unfold Hid;rw [HF0.out,hM,hD,hW];rfl
     go_wp2_with fail
     clear c0 c1 c2 c3 c4 c5
     refine (HW.out _ (by simp [hD]) hW HB2c.out).mono ?_
     rintro e w2v ⟨rfl,hb⟩
     have HC2v:Hid _:=HC2c.out.below hb
     have HN2v:Hid _:=HN2c.out.below hb
     have HB2v:Hid (Below w.heap.size w w2v):=HB2c.out.trans (hb.mono HB2c.out.size)
     clear hb
     obtain ⟨_,c0,c1,c2,c3,c4,c5⟩:=HC2v.out
     go_wp2_with fail
     go_ret
     exact ⟨zb9 (by rw [HE.out]),HB2v.out⟩
  case true =>
   have hD:condR n=false:=zv3 hM
   go_wp2_with fail
   clear c0 c1 c2 c3 c4 c5
   refine (zh0 n hM _).mono ?_
   rintro e w2n ⟨rfl,hb⟩
   have HC2n:Hid _:=HC2.out.below hb
   have HN2n:Hid _:=HN2.out.below hb
   have HB2n:Hid (Below w.heap.size w w2n):=HB2.out.trans (hb.mono HB2.out.size)
   clear hb
   obtain ⟨_,c0,c1,c2,c3,c4,c5⟩:=HC2n.out
   cases hW:want
   case false =>
    have HE:Hid (faultV n dec s a want sites=42):=by unfold Hid;rw [HF0.out,hM,hW];rfl
    go_wp2_with fail
    clear c0 c1 c2 c3 c4 c5
    refine (HW.out _ (by simp [hM]) hW HB2n.out).mono ?_
    rintro e w2w ⟨rfl,hb⟩
    have HC2w:Hid _:=HC2n.out.below hb
    have HN2w:Hid _:=HN2n.out.below hb
    have HB2w:Hid (Below w.heap.size w w2w):=HB2n.out.trans (hb.mono HB2n.out.size)
    clear hb
    obtain ⟨_,c0,c1,c2,c3,c4,c5⟩:=HC2w.out
    go_wp2_with fail
    go_ret
    exact ⟨zb9 (by rw [HE.out]),HB2w.out⟩
   case true =>
    have HF:Hid (faultV n dec s a want sites=if siteR n&&decide (12≤sites) then 46 else 0):=by unfold Hid;rw [HF0.out,hM,hD,hW];rfl
    go_wp2_with fail
    clear c0 c1 c2 c3 c4 c5
    refine (HW.out _ (by simp [hM]) hW HB2n.out).mono ?_
    rintro e w2w ⟨rfl,hb⟩
    have HC2w:Hid _:=HC2n.out.below hb
    have HN2w:Hid _:=HN2n.out.below hb
    have HB2w:Hid (Below w.heap.size w w2w):=HB2n.out.trans (hb.mono HB2n.out.size)
    clear hb
    obtain ⟨_,c0,c1,c2,c3,c4,c5⟩:=HC2w.out
    go_wp2_with fail
    clear c0 c1 c2 c3 c4 c5
    refine (zg8 n hD _).mono ?_
    rintro e w2c ⟨rfl,hb⟩
    have HC2c:Hid _:=HC2w.out.below hb
    have HN2c:Hid _:=HN2w.out.below hb
    have HB2c:Hid (Below w.heap.size w w2c):=HB2w.out.trans (hb.mono HB2w.out.size)
    clear hb
    obtain ⟨_,c0,c1,c2,c3,c4,c5⟩:=HC2c.out
    cases hS:siteR n
    case false =>
     have HE:Hid (faultV n dec s a want sites=0):=by unfold Hid;rw [HF.out,hS];rfl
     go_wp2_with fail
     clear c0 c1 c2 c3 c4 c5
     refine (zb5 n hS _).mono ?_
     rintro e w2cs ⟨rfl,hb⟩
     have HC2cs:Hid _:=HC2c.out.below hb
     have HN2cs:Hid _:=HN2c.out.below hb
     have HB2cs:Hid (Below w.heap.size w w2cs):=HB2c.out.trans (hb.mono HB2c.out.size)
     clear hb
     obtain ⟨_,c0,c1,c2,c3,c4,c5⟩:=HC2cs.out
     go_wp2_with fail
     go_ret
     exact ⟨zb9 (by rw [HE.out]),HB2cs.out⟩
    case true =>
     by_cases h12:12≤sites
     ·have h12i:12≤(sites:Int):=by omega
      have HE:Hid (faultV n dec s a want sites=46):=by unfold Hid;rw [HF.out,hS];simp [h12]
      go_wp2_with fail
      clear c0 c1 c2 c3 c4 c5
      refine (zb5 n hS _).mono ?_
      rintro e w2cs ⟨rfl,hb⟩
      have HC2cs:Hid _:=HC2c.out.below hb
      have HN2cs:Hid _:=HN2c.out.below hb
      have HB2cs:Hid (Below w.heap.size w w2cs):=HB2c.out.trans (hb.mono HB2c.out.size)
      clear hb
      obtain ⟨_,c0,c1,c2,c3,c4,c5⟩:=HC2cs.out
      go_wp2_with fail
      go_ret
      exact ⟨zb9 (by rw [HE.out]),HB2cs.out⟩
     ·have h12i:(sites:Int)<12:=by omega
      have h12d:decide (12≤(sites:Int))=false:=decide_eq_false (by omega)
      have HE:Hid (faultV n dec s a want sites=0):=by unfold Hid;rw [HF.out,hS];simp [h12]
      go_wp2_with fail
      clear c0 c1 c2 c3 c4 c5
      refine (zb5 n hS _).mono ?_
      rintro e w2cs ⟨rfl,hb⟩
      have HC2cs:Hid _:=HC2c.out.below hb
      have HN2cs:Hid _:=HN2c.out.below hb
      have HB2cs:Hid (Below w.heap.size w w2cs):=HB2c.out.trans (hb.mono HB2c.out.size)
      clear hb
      obtain ⟨_,c0,c1,c2,c3,c4,c5⟩:=HC2cs.out
      go_wp2_with fail
      go_ret
      exact ⟨zb9 (by rw [HE.out]),HB2cs.out⟩
 have hpos:0<nm:=by omega
 go_wp2_with fail
 refine (HDS.out _ HB2.out).mono ?_
 rintro e w9 ⟨rfl,hw⟩
 subst hw
 go_wp2_with fail
 refine (HDA.out _ HB2.out).mono ?_
 rintro e w9 ⟨rfl,hw⟩
 subst hw
 by_cases h41:s<0∧a<0
 ·have HE:Hid (faultV n dec s a want sites=41):=by unfold Hid faultV;rw [if_neg k01,hnm,if_pos ⟨hpos,h41⟩]
  have e1:decide (s<0)=true:=decide_eq_true h41.1
  have e2:decide (a<0)=true:=decide_eq_true h41.2
  obtain ⟨e3,e4⟩:=h41
  go_wp2_with fail
  go_ret
  exact ⟨zb9 (by rw [HE.out]),HB2.out⟩
 cases h42:((nm==1) != decide (0≤s))
 case true =>
  have HE:Hid (faultV n dec s a want sites=42):=by
   unfold Hid faultV;rw [if_neg k01,hnm,if_neg (fun e=>h41 e.2),if_pos ⟨hpos,h42⟩]
  by_cases e1:s<0
  ·have e2:0≤a:=by omega
   have e3:decide (0≤s)=false:=decide_eq_false (by omega)
   rw [e3] at h42
   have e4:(nm==1)=true:=by simpa using h42
   have e5:nm=1:=by simpa using e4
   subst e5
   go_wp2_with fail
   go_ret
   exact ⟨zb9 (by rw [HE.out]),HB2.out⟩
  ·have e2:0≤s:=by omega
   have e3:decide (0≤s)=true:=decide_eq_true (by omega)
   rw [e3] at h42
   have e4:(nm==1)=false:=by simpa using h42
   have e5:nm=2:=by rcases hnm3 with e | e;(rw [e] at e4;simp at e4);exact e
   subst e5
   go_wp2_with fail
   go_ret
   exact ⟨zb9 (by rw [HE.out]),HB2.out⟩
 have HF0:Hid (faultV n dec s a want sites=if (numberR n && !want)||(condR n&&want) then 42 else if siteR n&&decide (12≤sites) then 46 else 0):=by
  unfold Hid faultV;rw [if_neg k01,hnm,if_neg (fun e=>h41 e.2),if_neg (by simp [h42])]
 clear k01
 by_cases e1:s<0
 ·have e2:0≤a:=by omega
  have e3:decide (0≤s)=false:=decide_eq_false (by omega)
  rw [e3] at h42
  have e4:(nm==1)=false:=by simpa using h42
  have e5:nm=2:=by rcases hnm3 with e | e;(rw [e] at e4;simp at e4);exact e
  subst e5
  clear h41 h42 hnm3
  cases hM:numberR n
  case false =>
   go_wp2_with fail
   clear c0 c1 c2 c3 c4 c5
   refine (zh0 n hM _).mono ?_
   rintro e w2n ⟨rfl,hb⟩
   have HC2n:Hid _:=HC2.out.below hb
   have HN2n:Hid _:=HN2.out.below hb
   have HB2n:Hid (Below w.heap.size w w2n):=HB2.out.trans (hb.mono HB2.out.size)
   clear hb
   obtain ⟨_,c0,c1,c2,c3,c4,c5⟩:=HC2n.out
   cases hD:condR n
   case false =>
    have HF:Hid (faultV n dec s a want sites=if siteR n&&decide (12≤sites) then 46 else 0):=by unfold Hid;rw [HF0.out,hM,hD];rfl
    go_wp2_with fail
    clear c0 c1 c2 c3 c4 c5
    refine (zg8 n hD _).mono ?_
    rintro e w2c ⟨rfl,hb⟩
    have HC2c:Hid _:=HC2n.out.below hb
    have HN2c:Hid _:=HN2n.out.below hb
    have HB2c:Hid (Below w.heap.size w w2c):=HB2n.out.trans (hb.mono HB2n.out.size)
    clear hb
    obtain ⟨_,c0,c1,c2,c3,c4,c5⟩:=HC2c.out
    cases hS:siteR n
    case false =>
     have HE:Hid (faultV n dec s a want sites=0):=by unfold Hid;rw [HF.out,hS];rfl
     go_wp2_with fail
     clear c0 c1 c2 c3 c4 c5
     refine (zb5 n hS _).mono ?_
     rintro e w2cs ⟨rfl,hb⟩
     have HC2cs:Hid _:=HC2c.out.below hb
     have HN2cs:Hid _:=HN2c.out.below hb
     have HB2cs:Hid (Below w.heap.size w w2cs):=HB2c.out.trans (hb.mono HB2c.out.size)
     clear hb
     obtain ⟨_,c0,c1,c2,c3,c4,c5⟩:=HC2cs.out
     go_wp2_with fail
     go_ret
     exact ⟨zb9 (by rw [HE.out]),HB2cs.out⟩
    case true =>
     by_cases h12:12≤sites
     ·have h12i:12≤(sites:Int):=by omega
      have HE:Hid (faultV n dec s a want sites=46):=by unfold Hid;rw [HF.out,hS];simp [h12]
      go_wp2_with fail
      clear c0 c1 c2 c3 c4 c5
      refine (zb5 n hS _).mono ?_
      rintro e w2cs ⟨rfl,hb⟩
      have HC2cs:Hid _:=HC2c.out.below hb
      have HN2cs:Hid _:=HN2c.out.below hb
      have HB2cs:Hid (Below w.heap.size w w2cs):=HB2c.out.trans (hb.mono HB2c.out.size)
      clear hb
      obtain ⟨_,c0,c1,c2,c3,c4,c5⟩:=HC2cs.out
      go_wp2_with fail
      go_ret
      exact ⟨zb9 (by rw [HE.out]),HB2cs.out⟩
     ·have h12i:(sites:Int)<12:=by omega
      have h12d:decide (12≤(sites:Int))=false:=decide_eq_false (by omega)
      have HE:Hid (faultV n dec s a want sites=0):=by unfold Hid;rw [HF.out,hS];simp [h12]
      go_wp2_with fail
      clear c0 c1 c2 c3 c4 c5
      refine (zb5 n hS _).mono ?_
      rintro e w2cs ⟨rfl,hb⟩
      have HC2cs:Hid _:=HC2c.out.below hb
      have HN2cs:Hid _:=HN2c.out.below hb
      have HB2cs:Hid (Below w.heap.size w w2cs):=HB2c.out.trans (hb.mono HB2c.out.size)
      clear hb
      obtain ⟨_,c0,c1,c2,c3,c4,c5⟩:=HC2cs.out
      go_wp2_with fail
      go_ret
      exact ⟨zb9 (by rw [HE.out]),HB2cs.out⟩
   case true =>
    go_wp2_with fail
    clear c0 c1 c2 c3 c4 c5
    refine (zg8 n hD _).mono ?_
    rintro e w2c ⟨rfl,hb⟩
    have HC2c:Hid _:=HC2n.out.below hb
    have HN2c:Hid _:=HN2n.out.below hb
    have HB2c:Hid (Below w.heap.size w w2c):=HB2n.out.trans (hb.mono HB2n.out.size)
    clear hb
    obtain ⟨_,c0,c1,c2,c3,c4,c5⟩:=HC2c.out
    cases hW:want
    case false =>
     have HF:Hid (faultV n dec s a want sites=if siteR n&&decide (12≤sites) then 46 else 0):=by unfold Hid;rw [HF0.out,hM,hD,hW];rfl
     go_wp2_with fail
     clear c0 c1 c2 c3 c4 c5
     refine (HW.out _ (by simp [hD]) hW HB2c.out).mono ?_
     rintro e w2v ⟨rfl,hb⟩
     have HC2v:Hid _:=HC2c.out.below hb
     have HN2v:Hid _:=HN2c.out.below hb
     have HB2v:Hid (Below w.heap.size w w2v):=HB2c.out.trans (hb.mono HB2c.out.size)
     clear hb
     obtain ⟨_,c0,c1,c2,c3,c4,c5⟩:=HC2v.out
     cases hS:siteR n
     case false =>
      have HE:Hid (faultV n dec s a want sites=0):=by unfold Hid;rw [HF.out,hS];rfl
      go_wp2_with fail
      clear c0 c1 c2 c3 c4 c5
      refine (zb5 n hS _).mono ?_
      rintro e w2vs ⟨rfl,hb⟩
      have HC2vs:Hid _:=HC2v.out.below hb
      have HN2vs:Hid _:=HN2v.out.below hb
      have HB2vs:Hid (Below w.heap.size w w2vs):=HB2v.out.trans (hb.mono HB2v.out.size)
      clear hb
      obtain ⟨_,c0,c1,c2,c3,c4,c5⟩:=HC2vs.out
      go_wp2_with fail
      go_ret
      exact ⟨zb9 (by rw [HE.out]),HB2vs.out⟩
     case true =>
      by_cases h12:12≤sites
      ·have h12i:12≤(sites:Int):=by omega
       have HE:Hid (faultV n dec s a want sites=46):=by unfold Hid;rw [HF.out,hS];simp [h12]
       go_wp2_with fail
       clear c0 c1 c2 c3 c4 c5
       refine (zb5 n hS _).mono ?_
       rintro e w2vs ⟨rfl,hb⟩
       have HC2vs:Hid _:=HC2v.out.below hb
       have HN2vs:Hid _:=HN2v.out.below hb
       have HB2vs:Hid (Below w.heap.size w w2vs):=HB2v.out.trans (hb.mono HB2v.out.size)
       clear hb
       obtain ⟨_,c0,c1,c2,c3,c4,c5⟩:=HC2vs.out
       go_wp2_with fail
       go_ret
       exact ⟨zb9 (by rw [HE.out]),HB2vs.out⟩
      ·have h12i:(sites:Int)<12:=by omega
       have h12d:decide (12≤(sites:Int))=false:=decide_eq_false (by omega)
       have HE:Hid (faultV n dec s a want sites=0):=by unfold Hid;rw [HF.out,hS];simp [h12]
       go_wp2_with fail
       clear c0 c1 c2 c3 c4 c5
       refine (zb5 n hS _).mono ?_
       rintro e w2vs ⟨rfl,hb⟩
       have HC2vs:Hid _:=HC2v.out.below hb
       have HN2vs:Hid _:=HN2v.out.below hb
       have HB2vs:Hid (Below w.heap.size w w2vs):=HB2v.out.trans (hb.mono HB2v.out.size)
       clear hb
       obtain ⟨_,c0,c1,c2,c3,c4,c5⟩:=HC2vs.out
       go_wp2_with fail
       go_ret
       exact ⟨zb9 (by rw [HE.out]),HB2vs.out⟩
    case true =>
     have HE:Hid (faultV n dec s a want sites=42):=by unfold Hid;rw [HF0.out,hM,hD,hW];rfl
     go_wp2_with fail
     clear c0 c1 c2 c3 c4 c5
     refine (HW.out _ (by simp [hD]) hW HB2c.out).mono ?_
     rintro e w2v ⟨rfl,hb⟩
     have HC2v:Hid _:=HC2c.out.below hb
     have HN2v:Hid _:=HN2c.out.below hb
     have HB2v:Hid (Below w.heap.size w w2v):=HB2c.out.trans (hb.mono HB2c.out.size)
     clear hb
     obtain ⟨_,c0,c1,c2,c3,c4,c5⟩:=HC2v.out
     go_wp2_with fail
     go_ret
     exact ⟨zb9 (by rw [HE.out]),HB2v.out⟩
  case true =>
   have hD:condR n=false:=zv3 hM
   go_wp2_with fail
   clear c0 c1 c2 c3 c4 c5
   refine (zh0 n hM _).mono ?_
   rintro e w2n ⟨rfl,hb⟩
   have HC2n:Hid _:=HC2.out.below hb
   have HN2n:Hid _:=HN2.out.below hb
   have HB2n:Hid (Below w.heap.size w w2n):=HB2.out.trans (hb.mono HB2.out.size)
   clear hb
   obtain ⟨_,c0,c1,c2,c3,c4,c5⟩:=HC2n.out
   cases hW:want
   case false =>
    have HE:Hid (faultV n dec s a want sites=42):=by unfold Hid;rw [HF0.out,hM,hW];rfl
    go_wp2_with fail
    clear c0 c1 c2 c3 c4 c5
    refine (HW.out _ (by simp [hM]) hW HB2n.out).mono ?_
    rintro e w2w ⟨rfl,hb⟩
    have HC2w:Hid _:=HC2n.out.below hb
    have HN2w:Hid _:=HN2n.out.below hb
    have HB2w:Hid (Below w.heap.size w w2w):=HB2n.out.trans (hb.mono HB2n.out.size)
    clear hb
    obtain ⟨_,c0,c1,c2,c3,c4,c5⟩:=HC2w.out
    go_wp2_with fail
    go_ret
    exact ⟨zb9 (by rw [HE.out]),HB2w.out⟩
   case true =>
    have HF:Hid (faultV n dec s a want sites=if siteR n&&decide (12≤sites) then 46 else 0):=by unfold Hid;rw [HF0.out,hM,hD,hW];rfl
    go_wp2_with fail
    clear c0 c1 c2 c3 c4 c5
    refine (HW.out _ (by simp [hM]) hW HB2n.out).mono ?_
    rintro e w2w ⟨rfl,hb⟩
    have HC2w:Hid _:=HC2n.out.below hb
    have HN2w:Hid _:=HN2n.out.below hb
    have HB2w:Hid (Below w.heap.size w w2w):=HB2n.out.trans (hb.mono HB2n.out.size)
    clear hb
    obtain ⟨_,c0,c1,c2,c3,c4,c5⟩:=HC2w.out
    go_wp2_with fail
    clear c0 c1 c2 c3 c4 c5
    refine (zg8 n hD _).mono ?_
    rintro e w2c ⟨rfl,hb⟩
    have HC2c:Hid _:=HC2w.out.below hb
    have HN2c:Hid _:=HN2w.out.below hb
    have HB2c:Hid (Below w.heap.size w w2c):=HB2w.out.trans (hb.mono HB2w.out.size)
    clear hb
    obtain ⟨_,c0,c1,c2,c3,c4,c5⟩:=HC2c.out
    cases hS:siteR n
    case false =>
     have HE:Hid (faultV n dec s a want sites=0):=by unfold Hid;rw [HF.out,hS];rfl
     go_wp2_with fail
     clear c0 c1 c2 c3 c4 c5
     refine (zb5 n hS _).mono ?_
     rintro e w2cs ⟨rfl,hb⟩
     have HC2cs:Hid _:=HC2c.out.below hb
     have HN2cs:Hid _:=HN2c.out.below hb
     have HB2cs:Hid (Below w.heap.size w w2cs):=HB2c.out.trans (hb.mono HB2c.out.size)
     clear hb
     obtain ⟨_,c0,c1,c2,c3,c4,c5⟩:=HC2cs.out
     go_wp2_with fail
     go_ret
     exact ⟨zb9 (by rw [HE.out]),HB2cs.out⟩
    case true =>
     by_cases h12:12≤sites
     ·have h12i:12≤(sites:Int):=by omega
      have HE:Hid (faultV n dec s a want sites=46):=by unfold Hid;rw [HF.out,hS];simp [h12]
      go_wp2_with fail
      clear c0 c1 c2 c3 c4 c5
      refine (zb5 n hS _).mono ?_
      rintro e w2cs ⟨rfl,hb⟩
      have HC2cs:Hid _:=HC2c.out.below hb
      have HN2cs:Hid _:=HN2c.out.below hb
      have HB2cs:Hid (Below w.heap.size w w2cs):=HB2c.out.trans (hb.mono HB2c.out.size)
      clear hb
      obtain ⟨_,c0,c1,c2,c3,c4,c5⟩:=HC2cs.out
      go_wp2_with fail
      go_ret
      exact ⟨zb9 (by rw [HE.out]),HB2cs.out⟩
     ·have h12i:(sites:Int)<12:=by omega
      have h12d:decide (12≤(sites:Int))=false:=decide_eq_false (by omega)
      have HE:Hid (faultV n dec s a want sites=0):=by unfold Hid;rw [HF.out,hS];simp [h12]
      go_wp2_with fail
      clear c0 c1 c2 c3 c4 c5
      refine (zb5 n hS _).mono ?_
      rintro e w2cs ⟨rfl,hb⟩
      have HC2cs:Hid _:=HC2c.out.below hb
      have HN2cs:Hid _:=HN2c.out.below hb
      have HB2cs:Hid (Below w.heap.size w w2cs):=HB2c.out.trans (hb.mono HB2c.out.size)
      clear hb
      obtain ⟨_,c0,c1,c2,c3,c4,c5⟩:=HC2cs.out
      go_wp2_with fail
      go_ret
      exact ⟨zb9 (by rw [HE.out]),HB2cs.out⟩
 ·have e2:0≤s:=by omega
  have e3:decide (0≤s)=true:=decide_eq_true (by omega)
  rw [e3] at h42
  have e4:(nm==1)=true:=by simpa using h42
  have e5:nm=1:=by simpa using e4
  subst e5
  clear h41 h42 hnm3
  cases hM:numberR n
  case false =>
   go_wp2_with fail
   clear c0 c1 c2 c3 c4 c5
   refine (zh0 n hM _).mono ?_
   rintro e w2n ⟨rfl,hb⟩
   have HC2n:Hid _:=HC2.out.below hb
   have HN2n:Hid _:=HN2.out.below hb
   have HB2n:Hid (Below w.heap.size w w2n):=HB2.out.trans (hb.mono HB2.out.size)
   clear hb
   obtain ⟨_,c0,c1,c2,c3,c4,c5⟩:=HC2n.out
   cases hD:condR n
   case false =>
    have HF:Hid (faultV n dec s a want sites=if siteR n&&decide (12≤sites) then 46 else 0):=by unfold Hid;rw [HF0.out,hM,hD];rfl
    go_wp2_with fail
    clear c0 c1 c2 c3 c4 c5
    refine (zg8 n hD _).mono ?_
    rintro e w2c ⟨rfl,hb⟩
    have HC2c:Hid _:=HC2n.out.below hb
    have HN2c:Hid _:=HN2n.out.below hb
    have HB2c:Hid (Below w.heap.size w w2c):=HB2n.out.trans (hb.mono HB2n.out.size)
    clear hb
    obtain ⟨_,c0,c1,c2,c3,c4,c5⟩:=HC2c.out
    cases hS:siteR n
    case false =>
     have HE:Hid (faultV n dec s a want sites=0):=by unfold Hid;rw [HF.out,hS];rfl
     go_wp2_with fail
     clear c0 c1 c2 c3 c4 c5
     refine (zb5 n hS _).mono ?_
     rintro e w2cs ⟨rfl,hb⟩
     have HC2cs:Hid _:=HC2c.out.below hb
     have HN2cs:Hid _:=HN2c.out.below hb
     have HB2cs:Hid (Below w.heap.size w w2cs):=HB2c.out.trans (hb.mono HB2c.out.size)
     clear hb
     obtain ⟨_,c0,c1,c2,c3,c4,c5⟩:=HC2cs.out
     go_wp2_with fail
     go_ret
     exact ⟨zb9 (by rw [HE.out]),HB2cs.out⟩
    case true =>
     by_cases h12:12≤sites
     ·have h12i:12≤(sites:Int):=by omega
      have HE:Hid (faultV n dec s a want sites=46):=by unfold Hid;rw [HF.out,hS];simp [h12]
      go_wp2_with fail
      clear c0 c1 c2 c3 c4 c5
      refine (zb5 n hS _).mono ?_
      rintro e w2cs ⟨rfl,hb⟩
      have HC2cs:Hid _:=HC2c.out.below hb
      have HN2cs:Hid _:=HN2c.out.below hb
      have HB2cs:Hid (Below w.heap.size w w2cs):=HB2c.out.trans (hb.mono HB2c.out.size)
      clear hb
      obtain ⟨_,c0,c1,c2,c3,c4,c5⟩:=HC2cs.out
      go_wp2_with fail
      go_ret
      exact ⟨zb9 (by rw [HE.out]),HB2cs.out⟩
     ·have h12i:(sites:Int)<12:=by omega
      have h12d:decide (12≤(sites:Int))=false:=decide_eq_false (by omega)
      have HE:Hid (faultV n dec s a want sites=0):=by unfold Hid;rw [HF.out,hS];simp [h12]
      go_wp2_with fail
      clear c0 c1 c2 c3 c4 c5
      refine (zb5 n hS _).mono ?_
      rintro e w2cs ⟨rfl,hb⟩
      have HC2cs:Hid _:=HC2c.out.below hb
      have HN2cs:Hid _:=HN2c.out.below hb
      have HB2cs:Hid (Below w.heap.size w w2cs):=HB2c.out.trans (hb.mono HB2c.out.size)
      clear hb
      obtain ⟨_,c0,c1,c2,c3,c4,c5⟩:=HC2cs.out
      go_wp2_with fail
      go_ret
      exact ⟨zb9 (by rw [HE.out]),HB2cs.out⟩
   case true =>
    go_wp2_with fail
    clear c0 c1 c2 c3 c4 c5
    refine (zg8 n hD _).mono ?_
    rintro e w2c ⟨rfl,hb⟩
    have HC2c:Hid _:=HC2n.out.below hb
    have HN2c:Hid _:=HN2n.out.below hb
    have HB2c:Hid (Below w.heap.size w w2c):=HB2n.out.trans (hb.mono HB2n.out.size)
    clear hb
    obtain ⟨_,c0,c1,c2,c3,c4,c5⟩:=HC2c.out
    cases hW:want
    case false =>
     have HF:Hid (faultV n dec s a want sites=if siteR n&&decide (12≤sites) then 46 else 0):=by unfold Hid;rw [HF0.out,hM,hD,hW];rfl
     go_wp2_with fail
     clear c0 c1 c2 c3 c4 c5
     refine (HW.out _ (by simp [hD]) hW HB2c.out).mono ?_
     rintro e w2v ⟨rfl,hb⟩
     have HC2v:Hid _:=HC2c.out.below hb
     have HN2v:Hid _:=HN2c.out.below hb
     have HB2v:Hid (Below w.heap.size w w2v):=HB2c.out.trans (hb.mono HB2c.out.size)
     clear hb
     obtain ⟨_,c0,c1,c2,c3,c4,c5⟩:=HC2v.out
     cases hS:siteR n
     case false =>
      have HE:Hid (faultV n dec s a want sites=0):=by unfold Hid;rw [HF.out,hS];rfl
      go_wp2_with fail
      clear c0 c1 c2 c3 c4 c5
      refine (zb5 n hS _).mono ?_
      rintro e w2vs ⟨rfl,hb⟩
      have HC2vs:Hid _:=HC2v.out.below hb
      have HN2vs:Hid _:=HN2v.out.below hb
      have HB2vs:Hid (Below w.heap.size w w2vs):=HB2v.out.trans (hb.mono HB2v.out.size)
      clear hb
      obtain ⟨_,c0,c1,c2,c3,c4,c5⟩:=HC2vs.out
      go_wp2_with fail
      go_ret
      exact ⟨zb9 (by rw [HE.out]),HB2vs.out⟩
     case true =>
      by_cases h12:12≤sites
      ·have h12i:12≤(sites:Int):=by omega
       have HE:Hid (faultV n dec s a want sites=46):=by unfold Hid;rw [HF.out,hS];simp [h12]
       go_wp2_with fail
       clear c0 c1 c2 c3 c4 c5
       refine (zb5 n hS _).mono ?_
       rintro e w2vs ⟨rfl,hb⟩
       have HC2vs:Hid _:=HC2v.out.below hb
       have HN2vs:Hid _:=HN2v.out.below hb
       have HB2vs:Hid (Below w.heap.size w w2vs):=HB2v.out.trans (hb.mono HB2v.out.size)
       clear hb
       obtain ⟨_,c0,c1,c2,c3,c4,c5⟩:=HC2vs.out
       go_wp2_with fail
       go_ret
       exact ⟨zb9 (by rw [HE.out]),HB2vs.out⟩
      ·have h12i:(sites:Int)<12:=by omega
       have h12d:decide (12≤(sites:Int))=false:=decide_eq_false (by omega)
       have HE:Hid (faultV n dec s a want sites=0):=by unfold Hid;rw [HF.out,hS];simp [h12]
       go_wp2_with fail
       clear c0 c1 c2 c3 c4 c5
       refine (zb5 n hS _).mono ?_
       rintro e w2vs ⟨rfl,hb⟩
       have HC2vs:Hid _:=HC2v.out.below hb
       have HN2vs:Hid _:=HN2v.out.below hb
       have HB2vs:Hid (Below w.heap.size w w2vs):=HB2v.out.trans (hb.mono HB2v.out.size)
       clear hb
       obtain ⟨_,c0,c1,c2,c3,c4,c5⟩:=HC2vs.out
       go_wp2_with fail
       go_ret
       exact ⟨zb9 (by rw [HE.out]),HB2vs.out⟩
    case true =>
     have HE:Hid (faultV n dec s a want sites=42):=by unfold Hid;rw [HF0.out,hM,hD,hW];rfl
     go_wp2_with fail
     clear c0 c1 c2 c3 c4 c5
     refine (HW.out _ (by simp [hD]) hW HB2c.out).mono ?_
     rintro e w2v ⟨rfl,hb⟩
     have HC2v:Hid _:=HC2c.out.below hb
     have HN2v:Hid _:=HN2c.out.below hb
     have HB2v:Hid (Below w.heap.size w w2v):=HB2c.out.trans (hb.mono HB2c.out.size)
     clear hb
     obtain ⟨_,c0,c1,c2,c3,c4,c5⟩:=HC2v.out
     go_wp2_with fail
     go_ret
     exact ⟨zb9 (by rw [HE.out]),HB2v.out⟩
  case true =>
   have hD:condR n=false:=zv3 hM
   go_wp2_with fail
   clear c0 c1 c2 c3 c4 c5
   refine (zh0 n hM _).mono ?_
   rintro e w2n ⟨rfl,hb⟩
   have HC2n:Hid _:=HC2.out.below hb
   have HN2n:Hid _:=HN2.out.below hb
   have HB2n:Hid (Below w.heap.size w w2n):=HB2.out.trans (hb.mono HB2.out.size)
   clear hb
   obtain ⟨_,c0,c1,c2,c3,c4,c5⟩:=HC2n.out
   cases hW:want
   case false =>
    have HE:Hid (faultV n dec s a want sites=42):=by unfold Hid;rw [HF0.out,hM,hW];rfl
    go_wp2_with fail
    clear c0 c1 c2 c3 c4 c5
    refine (HW.out _ (by simp [hM]) hW HB2n.out).mono ?_
    rintro e w2w ⟨rfl,hb⟩
    have HC2w:Hid _:=HC2n.out.below hb
    have HN2w:Hid _:=HN2n.out.below hb
    have HB2w:Hid (Below w.heap.size w w2w):=HB2n.out.trans (hb.mono HB2n.out.size)
    clear hb
    obtain ⟨_,c0,c1,c2,c3,c4,c5⟩:=HC2w.out
    go_wp2_with fail
    go_ret
    exact ⟨zb9 (by rw [HE.out]),HB2w.out⟩
   case true =>
    have HF:Hid (faultV n dec s a want sites=if siteR n&&decide (12≤sites) then 46 else 0):=by unfold Hid;rw [HF0.out,hM,hD,hW];rfl
    go_wp2_with fail
    clear c0 c1 c2 c3 c4 c5
    refine (HW.out _ (by simp [hM]) hW HB2n.out).mono ?_
    rintro e w2w ⟨rfl,hb⟩
    have HC2w:Hid _:=HC2n.out.below hb
    have HN2w:Hid _:=HN2n.out.below hb
    have HB2w:Hid (Below w.heap.size w w2w):=HB2n.out.trans (hb.mono HB2n.out.size)
    clear hb
    obtain ⟨_,c0,c1,c2,c3,c4,c5⟩:=HC2w.out
    go_wp2_with fail
    clear c0 c1 c2 c3 c4 c5
    refine (zg8 n hD _).mono ?_
    rintro e w2c ⟨rfl,hb⟩
    have HC2c:Hid _:=HC2w.out.below hb
    have HN2c:Hid _:=HN2w.out.below hb
    have HB2c:Hid (Below w.heap.size w w2c):=HB2w.out.trans (hb.mono HB2w.out.size)
    clear hb
    obtain ⟨_,c0,c1,c2,c3,c4,c5⟩:=HC2c.out
    cases hS:siteR n
    case false =>
     have HE:Hid (faultV n dec s a want sites=0):=by unfold Hid;rw [HF.out,hS];rfl
     go_wp2_with fail
     clear c0 c1 c2 c3 c4 c5
     refine (zb5 n hS _).mono ?_
     rintro e w2cs ⟨rfl,hb⟩
     have HC2cs:Hid _:=HC2c.out.below hb
     have HN2cs:Hid _:=HN2c.out.below hb
     have HB2cs:Hid (Below w.heap.size w w2cs):=HB2c.out.trans (hb.mono HB2c.out.size)
     clear hb
     obtain ⟨_,c0,c1,c2,c3,c4,c5⟩:=HC2cs.out
     go_wp2_with fail
     go_ret
     exact ⟨zb9 (by rw [HE.out]),HB2cs.out⟩
    case true =>
     by_cases h12:12≤sites
     ·have h12i:12≤(sites:Int):=by omega
      have HE:Hid (faultV n dec s a want sites=46):=by unfold Hid;rw [HF.out,hS];simp [h12]
      go_wp2_with fail
      clear c0 c1 c2 c3 c4 c5
      refine (zb5 n hS _).mono ?_
      rintro e w2cs ⟨rfl,hb⟩
      have HC2cs:Hid _:=HC2c.out.below hb
      have HN2cs:Hid _:=HN2c.out.below hb
      have HB2cs:Hid (Below w.heap.size w w2cs):=HB2c.out.trans (hb.mono HB2c.out.size)
      clear hb
      obtain ⟨_,c0,c1,c2,c3,c4,c5⟩:=HC2cs.out
      go_wp2_with fail
      go_ret
      exact ⟨zb9 (by rw [HE.out]),HB2cs.out⟩
     ·have h12i:(sites:Int)<12:=by omega
      have h12d:decide (12≤(sites:Int))=false:=decide_eq_false (by omega)
      have HE:Hid (faultV n dec s a want sites=0):=by unfold Hid;rw [HF.out,hS];simp [h12]
      go_wp2_with fail
      clear c0 c1 c2 c3 c4 c5
      refine (zb5 n hS _).mono ?_
      rintro e w2cs ⟨rfl,hb⟩
      have HC2cs:Hid _:=HC2c.out.below hb
      have HN2cs:Hid _:=HN2c.out.below hb
      have HB2cs:Hid (Below w.heap.size w w2cs):=HB2c.out.trans (hb.mono HB2c.out.size)
      clear hb
      obtain ⟨_,c0,c1,c2,c3,c4,c5⟩:=HC2cs.out
      go_wp2_with fail
      go_ret
      exact ⟨zb9 (by rw [HE.out]),HB2cs.out⟩
end Go.Proofs.YtgobgdljckamkaaGreatDoor
