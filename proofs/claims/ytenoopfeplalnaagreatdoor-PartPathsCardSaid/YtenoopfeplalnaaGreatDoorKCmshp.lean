import Derived.Test.YtenoopfeplalnaaGreatDoorKCddecl
set_option maxHeartbeats 8000000
set_option linter.all false
namespace Go.Proofs.YtenoopfeplalnaaGreatDoor
section
open Go.RowKit
def declaresV (kind num s a:Int) (ns na:Nat):Int :=
 if 0<=s\/0<=a then 40 else if kind=1/\(num<1\/16<num) then 43 else if kind=0/\8<=ns then 44 else if kind=1/\3<=na then 45 else 0
def declaresR (ns:List Nd) (n:Nd) (i:Nat):Int:=declaresV n.kind n.num (declOf ns 0 n.name.toList i).1 (declOf ns 1 n.name.toList i).1 (declOf ns 0 n.name.toList i).2 (declOf ns 1 n.name.toList i).2
theorem zk9 {a b:Int} (h:a=b):Ending.returned (.int .i64 a)=.returned (.int .i64 b):=by rw [h]
theorem zC9 (nb o cap i:Nat) (ns:List Nd) (w:World) (hi:i<ns.length) (hl:ns.length<=300) (h:NodesAt w nb o ns) :
  Calls Tryz.prog 66 #[.slice (some ⟨nb,o,none⟩) ns.length cap,.int .i64 i] w fun e w'=>e=.returned (.int .i64 (declaresR ns ns[i] i))/\Below w.heap.size w w':=by
 have c0:=h.c0 i hi
 have c1:=h.c1 i hi
 have c2:=h.c2 i hi
 have c3:=h.c3 i hi
 have c4:=h.c4 i hi
 have c5:=h.c5 i hi
 have hlt:=h.lt
 have hi1:(i:Int)<ns.length:=by omega
 have hl1:(ns.length:Int)<=300:=by omega
 have hne:¬nb=w.heap.size:=by omega
 obtain ⟨n,hn⟩:∃ n,ns[i]=n:=⟨_,rfl⟩
 rw [hn] at c0 c1 c2 c3 c4 c5 ⊢
 have HB:Hid (∀ ob,Below w.heap.size w (w.alloc ob)):=fun ob=>(Below.refl _ _).alloc (Nat.le_refl _) _
 obtain ⟨⟨s,sn⟩,hs⟩:∃ p,p=declOf ns 0 n.name.toList i:=⟨_,rfl⟩
 obtain ⟨⟨a,an⟩,ha⟩:∃ p,p=declOf ns 1 n.name.toList i:=⟨_,rfl⟩
 have HS:Hid (∀ w',Below w.heap.size w w'->Calls Tryz.prog 36 #[.slice (some ⟨nb,o,none⟩) ns.length cap,.int .i64 0,.string n.name,.int .i64 i] w' fun e w''=>e=.returned (.tuple #[.int .i64 s,.int .i64 sn])/\w''=w'):=fun w' hb=>by
  have:=zg0 nb o cap i 0 n.name ns w' (by omega) hl (.inl rfl) (h.below hb)
  rwa [<-hs] at this
 have HA:Hid (∀ w',Below w.heap.size w w'->Calls Tryz.prog 36 #[.slice (some ⟨nb,o,none⟩) ns.length cap,.int .i64 1,.string n.name,.int .i64 i] w' fun e w''=>e=.returned (.tuple #[.int .i64 a,.int .i64 an])/\w''=w'):=fun w' hb=>by
  have:=zg0 nb o cap i 1 n.name ns w' (by omega) hl (.inr rfl) (h.below hb)
  rwa [<-ha] at this
 have HE:Hid (declaresR ns n i=declaresV n.kind n.num s a sn an):=by unfold Hid declaresR;rw [<-hs,<-ha]
 rw [HE.out]
 clear h hn hs ha HE
 go_enter Tryz.func66,Tryz.ntmps66
 go_wp2_with fail
 refine (HS.out _ (HB.out _)).mono ?_
 rintro e w1 ⟨rfl,rfl⟩
 go_wp2_with fail
 refine (HA.out _ (HB.out _)).mono ?_
 rintro e w1 ⟨rfl,rfl⟩
 clear HS HA
 go_wp2
 all_goals
  go_ret
  refine ⟨zk9 ?_,HB.out _⟩
  clear HB c0 c1 c2 c3 c4 c5
  unfold declaresV
  repeat' split
 all_goals first
  | rfl
  | omega
  | (simp_all;done)
  | (simp_all;omega)
def faultV (n:Nd) (dec s a:Int) (want:Bool) (sites:Nat):Int :=
 if n.kind=0\/n.kind=1 then dec
 else if 0<namesR n/\s<0/\a<0 then 41
 else if 0<namesR n/\((namesR n==1) != decide (0<=s))=true then 42
 else if (numberR n && !want)||(condR n&&want) then 42 else if siteR n&&decide (12<=sites) then 46 else 0
theorem zw0 (n:Nd) {v:Bool} (h:numberR n=v) (w:World):Calls Tryz.prog 67 #[ndVal n] w fun e w'=>e=.returned (.bool v)/\Below w.heap.size w w':=by have:=zH9 n w;rwa [h] at this
theorem zy4 (n:Nd) {v:Bool} (h:condR n=v) (w:World):Calls Tryz.prog 69 #[ndVal n] w fun e w'=>e=.returned (.bool v)/\Below w.heap.size w w':=by have:=zW6 n w;rwa [h] at this
theorem zj9 (n:Nd) {v:Bool} (h:siteR n=v) (w:World):Calls Tryz.prog 37 #[ndVal n] w fun e w'=>e=.returned (.bool v)/\Below w.heap.size w w':=by have:=zW7 n w;rwa [h] at this
theorem zh2 (n:Nd) {v:Int} (h:namesR n=v) (w:World):Calls Tryz.prog 35 #[ndVal n] w fun e w'=>e=.returned (.int .i64 v)/\Below w.heap.size w w':=by have:=zR0 n w;rwa [h] at this
theorem yk3 {n:Nd} (h:numberR n=true):condR n=false:=by
 revert h
 unfold numberR condR
 repeat' split
 all_goals simp_all
 all_goals omega
theorem NdC.new (w:World) (n:Nd):NdC (w.alloc (.cells #[.int .i64 n.depth,.int .i64 n.kind,.string n.name,.int .i64 n.num,.int .i64 n.op,.int .i64 n.pos] 73)) w.heap.size n :=
 ⟨by simp,by simp [go_sem],by simp [go_sem],by simp [go_sem],by simp [go_sem],by simp [go_sem],by simp [go_sem]⟩
theorem zW9 (nb o cap i sites:Nat) (ns:List Nd) (dec s a:Int) (want:Bool) (n:Nd) (w:World) (hi:i<ns.length) (hn:ns[i]=n) (hl:ns.length<=300) (hs12:sites<=300) (h:NodesAt w nb o ns)
  (hdec:declaresR ns n i=dec) (hs:(declOf ns 0 n.name.toList ns.length).1=s) (ha:(declOf ns 1 n.name.toList ns.length).1=a)
  (hwant:(numberR n||condR n)=true->∃ (k:Nat) (hk:k<ns.length),holdFrom ns n.depth i=k/\wantN ns[k]=want) :
  Calls Tryz.prog 34 #[.slice (some ⟨nb,o,none⟩) ns.length cap,.int .i64 i,.int .i64 sites] w fun e w'=>e=.returned (.int .i64 (faultV n dec s a want sites))/\Below w.heap.size w w':=by
 have c0:=h.c0 i hi
 have c1:=h.c1 i hi
 have c2:=h.c2 i hi
 have c3:=h.c3 i hi
 have c4:=h.c4 i hi
 have c5:=h.c5 i hi
 have hlt:=h.lt
 have hi1:(i:Int)<ns.length:=by omega
 have hl1:(ns.length:Int)<=300:=by omega
 have hne:¬nb=w.heap.size:=by omega
 rw [hn] at c0 c1 c2 c3 c4 c5
 have HNw:=hid h
 have HDEC:Hid (∀ w',Below w.heap.size w w'->Calls Tryz.prog 66 #[.slice (some ⟨nb,o,none⟩) ns.length cap,.int .i64 i] w' fun e w''=>e=.returned (.int .i64 dec)/\Below w'.heap.size w' w''):=fun w' hb=>by
  have:=zC9 nb o cap i ns w' hi hl (h.below hb)
  rwa [hn,hdec] at this
 have HDS:Hid (∀ w',Below w.heap.size w w'->Calls Tryz.prog 36 #[.slice (some ⟨nb,o,none⟩) ns.length cap,.int .i64 0,.string n.name,.int .i64 ns.length] w' fun e w''=>e=.returned (.tuple #[.int .i64 s,.int .i64 (declOf ns 0 n.name.toList ns.length).2])/\w''=w'):=fun w' hb=>by
  have:=zg0 nb o cap ns.length 0 n.name ns w' (Nat.le_refl _) hl (.inl rfl) (h.below hb)
  rwa [hs] at this
 have HDA:Hid (∀ w',Below w.heap.size w w'->Calls Tryz.prog 36 #[.slice (some ⟨nb,o,none⟩) ns.length cap,.int .i64 1,.string n.name,.int .i64 ns.length] w' fun e w''=>e=.returned (.tuple #[.int .i64 a,.int .i64 (declOf ns 1 n.name.toList ns.length).2])/\w''=w'):=fun w' hb=>by
  have:=zg0 nb o cap ns.length 1 n.name ns w' (Nat.le_refl _) hl (.inr rfl) (h.below hb)
  rwa [ha] at this
 have HW:Hid (∀ w',(numberR n||condR n)=true->∀ {v:Bool},want=v->Below w.heap.size w w'->Calls Tryz.prog 68 #[.slice (some ⟨nb,o,none⟩) ns.length cap,.int .i64 i] w' fun e w''=>e=.returned (.bool v)/\Below w'.heap.size w' w''):=fun w' hx v hv hb=>by
  obtain ⟨k,hk,h1,h2⟩:=hwant hx
  have:=zQ4 nb o cap i k ns w' hi hl (h.below hb) (by rw [hn];exact h1) hk
  rwa [h2,hv] at this
 obtain ⟨sn,hsn⟩:∃ x,x=(declOf ns 0 n.name.toList ns.length).2:=⟨_,rfl⟩
 obtain ⟨an,han⟩:∃ x,x=(declOf ns 1 n.name.toList ns.length).2:=⟨_,rfl⟩
 rw [<-hsn] at HDS
 rw [<-han] at HDA
 clear h hn hdec hs ha hwant hsn han
 have HB1:Hid (Below w.heap.size w (w.alloc (.cells #[.int .i64 n.depth,.int .i64 n.kind,.string n.name,.int .i64 n.num,.int .i64 n.op,.int .i64 n.pos] 73))):=(Below.refl _ _).alloc (Nat.le_refl _) _
 have HC1:Hid _:=NdC.new w n
 have HN1:Hid _:=HNw.out.below HB1.out
 by_cases k01:n.kind=0\/n.kind=1
 case pos =>
  have HE:Hid (faultV n dec s a want sites=dec):=by unfold Hid faultV;rw [if_pos k01]
  have key:∀ v:Int,n.kind=v->(v=0\/v=1)->True:=fun _ _ _=>trivial
  rcases k01 with k0 | k0
  all_goals
   rw [k0] at c1 HB1 HC1 HN1
   go_enter Tryz.func34,Tryz.ntmps34
   go_wp2_with fail
   refine (HDEC.out _ HB1.out).mono ?_
   rintro e w2 ⟨rfl,hb⟩
   have HB2:Hid (Below w.heap.size w w2):=HB1.out.trans (hb.mono HB1.out.size)
   clear hb
   go_wp2_with fail
   go_ret
   exact ⟨zk9 (by rw [HE.out]),HB2.out⟩
 have b0:(n.kind==0)=false:=by rw [beq_eq_false_iff_ne];exact fun e=>k01 (.inl e)
 have b1:(n.kind==1)=false:=by rw [beq_eq_false_iff_ne];exact fun e=>k01 (.inr e)
 have d0:¬n.kind=0:=fun e=>k01 (.inl e)
 have d1:¬n.kind=1:=fun e=>k01 (.inr e)
 obtain ⟨nm,hnm⟩:∃ x,namesR n=x:=⟨_,rfl⟩
 have hnm3:nm=0\/nm=1\/nm=2:=by
  rw [<-hnm];unfold namesR;repeat' split
  all_goals simp
 go_enter Tryz.func34,Tryz.ntmps34
 go_wp2_with fail
 obtain ⟨w1,hw1⟩:∃ w1,w1=w.alloc (.cells #[.int .i64 n.depth,.int .i64 n.kind,.string n.name,.int .i64 n.num,.int .i64 n.op,.int .i64 n.pos] 73):=⟨_,rfl⟩
 rw [<-hw1] at HB1 HC1 HN1
 rw [<-hw1]
 clear hw1 c0 c1 c2 c3 c4 c5
 refine (zh2 n hnm _).mono ?_
 rintro e w2 ⟨rfl,hb⟩
 have HC2:Hid _:=HC1.out.below hb
 have HN2:Hid _:=HN1.out.below hb
 have HB2:Hid (Below w.heap.size w w2):=HB1.out.trans (hb.mono HB1.out.size)
 clear hb
 obtain ⟨_,c0,c1,c2,c3,c4,c5⟩:=HC2.out
 by_cases hz:nm=0
 case' pos =>
  subst hz
  have HF0:Hid (faultV n dec s a want sites=if (numberR n && !want)||(condR n&&want) then 42 else if siteR n&&decide (12<=sites) then 46 else 0):=by
   unfold Hid faultV;rw [if_neg k01,hnm];simp
  clear k01
 case' neg =>
  replace hnm3:=hnm3.resolve_left hz
  clear hz
  have hpos:0<nm:=by omega
  go_wp2_with fail
  refine (HDS.out _ HB2.out).mono ?_
  rintro e w9 ⟨rfl,hw⟩
  subst hw
  go_wp2_with fail
  refine (HDA.out _ HB2.out).mono ?_
  rintro e w9 ⟨rfl,hw⟩
  subst hw
  by_cases h41:s<0/\a<0
  ·have HE:Hid (faultV n dec s a want sites=41):=by unfold Hid faultV;rw [if_neg k01,hnm,if_pos ⟨hpos,h41⟩]
   have e1:decide (s<0)=true:=decide_eq_true h41.1
   have e2:decide (a<0)=true:=decide_eq_true h41.2
   obtain ⟨e3,e4⟩:=h41
   go_wp2_with fail
   go_ret
   exact ⟨zk9 (by rw [HE.out]),HB2.out⟩
  cases h42:((nm==1) != decide (0<=s))
  case true =>
   have HE:Hid (faultV n dec s a want sites=42):=by
    unfold Hid faultV;rw [if_neg k01,hnm,if_neg (fun e=>h41 e.2),if_pos ⟨hpos,h42⟩]
   by_cases e1:s<0
   ·have e2:0<=a:=by omega
    have e3:decide (0<=s)=false:=decide_eq_false (by omega)
    rw [e3] at h42
    have e4:(nm==1)=true:=by simpa using h42
    have e5:nm=1:=by simpa using e4
    subst e5
    go_wp2_with fail
    go_ret
    exact ⟨zk9 (by rw [HE.out]),HB2.out⟩
   ·have e2:0<=s:=by omega
    have e3:decide (0<=s)=true:=decide_eq_true (by omega)
    rw [e3] at h42
    have e4:(nm==1)=false:=by simpa using h42
    have e5:nm=2:=by rcases hnm3 with e | e;(rw [e] at e4;simp at e4);exact e
    subst e5
    go_wp2_with fail
    go_ret
    exact ⟨zk9 (by rw [HE.out]),HB2.out⟩
  have HF0:Hid (faultV n dec s a want sites=if (numberR n && !want)||(condR n&&want) then 42 else if siteR n&&decide (12<=sites) then 46 else 0):=by
   unfold Hid faultV;rw [if_neg k01,hnm,if_neg (fun e=>h41 e.2),if_neg (by simp [h42])]
  clear k01
  by_cases e1:s<0
  case' pos =>
   have e2:0<=a:=by omega
   have e3:decide (0<=s)=false:=decide_eq_false (by omega)
   rw [e3] at h42
   have e4:(nm==1)=false:=by simpa using h42
   have e5:nm=2:=by rcases hnm3 with e | e;(rw [e] at e4;simp at e4);exact e
   subst e5
   clear h41 h42 hnm3
  case' neg =>
   have e2:0<=s:=by omega
   have e3:decide (0<=s)=true:=decide_eq_true (by omega)
   rw [e3] at h42
   have e4:(nm==1)=true:=by simpa using h42
   have e5:nm=1:=by simpa using e4
   subst e5
   clear h41 h42 hnm3
 all_goals
  cases hM:numberR n
  case' true =>
   have hD:condR n=false:=yk3 hM
   go_wp2_with fail
   clear c0 c1 c2 c3 c4 c5
   refine (zw0 n hM _).mono ?_
   rintro e w2n ⟨rfl,hb⟩
   have HC2n:Hid _:=HC2.out.below hb
   have HN2n:Hid _:=HN2.out.below hb
   have HB2n:Hid (Below w.heap.size w w2n):=HB2.out.trans (hb.mono HB2.out.size)
   clear hb
   obtain ⟨_,c0,c1,c2,c3,c4,c5⟩:=HC2n.out
   cases hW:want
   case false =>
    have HE:Hid (faultV n dec s a want sites=42):=by unfold Hid;rw [HF0.out,hM,hW];rfl
    go_wp2_with fail
    clear c0 c1 c2 c3 c4 c5
    refine (HW.out _ (by simp [hM]) hW HB2n.out).mono ?_
    rintro e w2w ⟨rfl,hb⟩
    have HC2w:Hid _:=HC2n.out.below hb
    have HN2w:Hid _:=HN2n.out.below hb
    have HB2w:Hid (Below w.heap.size w w2w):=HB2n.out.trans (hb.mono HB2n.out.size)
    clear hb
    obtain ⟨_,c0,c1,c2,c3,c4,c5⟩:=HC2w.out
    go_wp2_with fail
    go_ret
    exact ⟨zk9 (by rw [HE.out]),HB2w.out⟩
   case' true =>
    have HF:Hid (faultV n dec s a want sites=if siteR n&&decide (12<=sites) then 46 else 0):=by unfold Hid;rw [HF0.out,hM,hD,hW];rfl
    go_wp2_with fail
    clear c0 c1 c2 c3 c4 c5
    refine (HW.out _ (by simp [hM]) hW HB2n.out).mono ?_
    rintro e w2w ⟨rfl,hb⟩
    have HC2w:Hid _:=HC2n.out.below hb
    have HN2w:Hid _:=HN2n.out.below hb
    have HB2w:Hid (Below w.heap.size w w2w):=HB2n.out.trans (hb.mono HB2n.out.size)
    clear hb
    obtain ⟨_,c0,c1,c2,c3,c4,c5⟩:=HC2w.out
    go_wp2_with fail
    clear c0 c1 c2 c3 c4 c5
    refine (zy4 n hD _).mono ?_
    rintro e w2c ⟨rfl,hb⟩
    have HC2c:Hid _:=HC2w.out.below hb
    have HN2c:Hid _:=HN2w.out.below hb
    have HB2c:Hid (Below w.heap.size w w2c):=HB2w.out.trans (hb.mono HB2w.out.size)
    clear hb
    obtain ⟨_,c0,c1,c2,c3,c4,c5⟩:=HC2c.out
  case' false =>
   go_wp2_with fail
   clear c0 c1 c2 c3 c4 c5
   refine (zw0 n hM _).mono ?_
   rintro e w2n ⟨rfl,hb⟩
   have HC2n:Hid _:=HC2.out.below hb
   have HN2n:Hid _:=HN2.out.below hb
   have HB2n:Hid (Below w.heap.size w w2n):=HB2.out.trans (hb.mono HB2.out.size)
   clear hb
   obtain ⟨_,c0,c1,c2,c3,c4,c5⟩:=HC2n.out
   cases hD:condR n
   case' true =>
    go_wp2_with fail
    clear c0 c1 c2 c3 c4 c5
    refine (zy4 n hD _).mono ?_
    rintro e w2m ⟨rfl,hb⟩
    have HC2m:Hid _:=HC2n.out.below hb
    have HN2m:Hid _:=HN2n.out.below hb
    have HB2m:Hid (Below w.heap.size w w2m):=HB2n.out.trans (hb.mono HB2n.out.size)
    clear hb
    obtain ⟨_,c0,c1,c2,c3,c4,c5⟩:=HC2m.out
    cases hW:want
    case true =>
     have HE:Hid (faultV n dec s a want sites=42):=by unfold Hid;rw [HF0.out,hM,hD,hW];rfl
     go_wp2_with fail
     clear c0 c1 c2 c3 c4 c5
     refine (HW.out _ (by simp [hD]) hW HB2m.out).mono ?_
     rintro e w2v ⟨rfl,hb⟩
     have HC2v:Hid _:=HC2m.out.below hb
     have HN2v:Hid _:=HN2m.out.below hb
     have HB2v:Hid (Below w.heap.size w w2v):=HB2m.out.trans (hb.mono HB2m.out.size)
     clear hb
     obtain ⟨_,c0,c1,c2,c3,c4,c5⟩:=HC2v.out
     go_wp2_with fail
     go_ret
     exact ⟨zk9 (by rw [HE.out]),HB2v.out⟩
    case' false =>
     have HF:Hid (faultV n dec s a want sites=if siteR n&&decide (12<=sites) then 46 else 0):=by unfold Hid;rw [HF0.out,hM,hD,hW];rfl
     go_wp2_with fail
     clear c0 c1 c2 c3 c4 c5
     refine (HW.out _ (by simp [hD]) hW HB2m.out).mono ?_
     rintro e w2c ⟨rfl,hb⟩
     have HC2c:Hid _:=HC2m.out.below hb
     have HN2c:Hid _:=HN2m.out.below hb
     have HB2c:Hid (Below w.heap.size w w2c):=HB2m.out.trans (hb.mono HB2m.out.size)
     clear hb
     obtain ⟨_,c0,c1,c2,c3,c4,c5⟩:=HC2c.out
   rotate_left
   have HF:Hid (faultV n dec s a want sites=if siteR n&&decide (12<=sites) then 46 else 0):=by unfold Hid;rw [HF0.out,hM,hD];rfl
   go_wp2_with fail
   clear c0 c1 c2 c3 c4 c5
   refine (zy4 n hD _).mono ?_
   rintro e w2c ⟨rfl,hb⟩
   have HC2c:Hid _:=HC2n.out.below hb
   have HN2c:Hid _:=HN2n.out.below hb
   have HB2c:Hid (Below w.heap.size w w2c):=HB2n.out.trans (hb.mono HB2n.out.size)
   clear hb
   obtain ⟨_,c0,c1,c2,c3,c4,c5⟩:=HC2c.out
  all_goals
   cases hS:siteR n
   case' false =>
     have HE:Hid (faultV n dec s a want sites=0):=by unfold Hid;rw [HF.out,hS];rfl
   case' true =>
    by_cases h12:12<=sites
    case' pos =>
     have h12i:12<=(sites:Int):=by omega
     have HE:Hid (faultV n dec s a want sites=46):=by unfold Hid;rw [HF.out,hS];simp [h12]
    case' neg =>
     have h12i:(sites:Int)<12:=by omega
     have h12d:decide (12<=(sites:Int))=false:=decide_eq_false (by omega)
     have HE:Hid (faultV n dec s a want sites=0):=by unfold Hid;rw [HF.out,hS];simp [h12]
   all_goals
    go_wp2_with fail
    clear c0 c1 c2 c3 c4 c5
    refine (zj9 n hS _).mono ?_
    rintro e w2cs ⟨rfl,hb⟩
    have HC2cs:Hid _:=HC2c.out.below hb
    have HN2cs:Hid _:=HN2c.out.below hb
    have HB2cs:Hid (Below w.heap.size w w2cs):=HB2c.out.trans (hb.mono HB2c.out.size)
    clear hb
    obtain ⟨_,c0,c1,c2,c3,c4,c5⟩:=HC2cs.out
    go_wp2_with fail
    go_ret
    exact ⟨zk9 (by rw [HE.out]),HB2cs.out⟩
end
section
open Go.RowKit
structure Shp (ns:List Nd):Prop where
 fit:∀ (i:Nat) (h:i<ns.length),fitN ns[i]=true
 dep:∀ (i:Nat) (h:i<ns.length),1<=ns[i].depth/\ns[i].depth<=24
 first:∀ (h:0<ns.length),ns[0].depth=1
 step:∀ (i:Nat) (h:i+1<ns.length),ns[i+1].depth<=ns[i].depth+1
 expr:∀ (i:Nat) (h:i<ns.length),10<=ns[i].kind->2<=ns[i].depth
 decl:∀ (i j:Nat) (h:j<ns.length) (hij:i<j),ns[j].kind<=1->ns[i].kind<=1
def lastD (ns:List Nd):Int:=match ns.getLast? with | some n=>n.depth | none=>0
theorem zR1 (ns:List Nd) (n:Nd):lastD (ns++[n])=n.depth:=by unfold lastD;simp
theorem zX0 (ns:List Nd) (h:0<ns.length):lastD ns=ns[ns.length-1].depth:=by
 unfold lastD
 rw [List.getLast?_eq_getElem?,List.getElem?_eq_getElem (by omega)]
theorem Shp.snoc {ns:List Nd} {n:Nd} (h:Shp ns) (hf:fitN n=true) (hd:1<=n.depth/\n.depth<=24) (hs:n.depth<=lastD ns+1) (he:10<=n.kind->2<=n.depth) (hk:n.kind<=1->∀ x∈ns,x.kind<=1):Shp (ns++[n]):=by
 have get:∀ (i:Nat) (hi:i<(ns++[n]).length),(∃ h':i<ns.length,(ns++[n])[i]=ns[i])\/(i=ns.length/\(ns++[n])[i]=n):=fun i hi=>by
  by_cases e:i<ns.length
  ·exact .inl ⟨e,List.getElem_append_left e⟩
  ·simp at hi
   have e2:i=ns.length:=by omega
   subst e2
   exact .inr ⟨rfl,by simp⟩
 refine ⟨fun i hi=>?_,fun i hi=>?_,fun h0=>?_,fun i hi=>?_,fun i hi=>?_,fun i j hj hij=>?_⟩
 ·rcases get i hi with ⟨h',e⟩ | ⟨_,e⟩<;>rw [e]
  ·exact h.fit i h'
  ·exact hf
 ·rcases get i hi with ⟨h',e⟩ | ⟨_,e⟩<;>rw [e]
  ·exact h.dep i h'
  ·exact hd
 ·rcases get 0 h0 with ⟨h',e⟩ | ⟨e0,e⟩<;>rw [e]
  ·exact h.first h'
  ·have:ns=[]:=List.eq_nil_of_length_eq_zero e0.symm
   subst this
   have:lastD []=0:=rfl
   omega
 ·rcases get (i+1) hi with ⟨h',e⟩ | ⟨e0,e⟩<;>rw [e]
  ·rw [List.getElem_append_left (show i<ns.length by omega)]
   exact h.step i h'
  ·rw [List.getElem_append_left (show i<ns.length by omega)]
   have:=zX0 ns (by omega)
   rw [this] at hs
   simpa [show ns.length-1=i by omega] using hs
 ·rcases get i hi with ⟨h',e⟩ | ⟨_,e⟩<;>rw [e]
  ·exact h.expr i h'
  ·exact he
 ·have hi:i<(ns++[n]).length:=by omega
  rcases get j hj with ⟨h',e⟩ | ⟨e0,e⟩<;>rw [e]
  ·rw [List.getElem_append_left (show i<ns.length by omega)]
   exact h.decl i j h' hij
  ·rw [List.getElem_append_left (show i<ns.length by omega)]
   exact fun hh=>hk hh _ (List.getElem_mem _)
theorem Shp.nil:Shp []:=⟨fun i h=>absurd h (by simp),fun i h=>absurd h (by simp),fun h=>absurd h (by simp),fun i h=>absurd h (by simp),fun i h=>absurd h (by simp),fun i j h=>absurd h (by simp)⟩
theorem yv5 {k:Nat} (h:k<16):(rSort k=1↔k<=1)/\(rSort k=4↔10<=k)/\1<=rSort k/\rSort k<=4:=by
 have:∀ j:Fin 16,(rSort j=1↔(j:Nat)<=1)/\(rSort j=4↔10<=(j:Nat))/\1<=rSort j/\rSort j<=4:=by decide
 exact this ⟨k,h⟩
theorem yv6 (k h:Nat):nextD k h≠1:=by
 unfold nextD
 by_cases hk:k<16
 ·have:∀ j:Fin 16,rH0 j≠1/\rH1 j≠1/\rH2 j≠1:=by decide
  have:=this ⟨k,hk⟩
  repeat' split
  all_goals first | decide | exact this.1 | exact this.2.1 | exact this.2.2
 ·have z:∀ l:List Int,l.length<=16->l.getD k 0=0:=fun l hl=>by rw [List.getD_eq_getElem?_getD,List.getElem?_eq_none (by omega)];rfl
  have z0:rH0 k=0:=z _ (by decide)
  have z1:rH1 k=0:=z _ (by decide)
  have z2:rH2 k=0:=z _ (by decide)
  rw [z0,z1,z2]
  repeat' split
  all_goals decide
theorem zX1 {k:Nat} (h:k<=1) (c:Nat):nextD k c=0:=by
 have:∀ j:Fin 2,rH0 j=0/\rH1 j=0/\rH2 j=0:=by decide
 have:=this ⟨k,by omega⟩
 unfold nextD
 rw [if_neg (by omega)]
 repeat' split
 all_goals first | exact this.1 | exact this.2.1 | exact this.2.2 | rfl
structure RunInv (pre:List Nd) (st:List Hold) (g:Bool):Prop where
 shp:Shp pre
 len:(st.length:Int)=lastD pre
 off:g=false->(∀ x∈pre,x.kind<=1)/\(st=[]\/∃ k c,k<=1/\st=[(k,c)])
theorem RunInv.put {pre:List Nd} {st:List Hold} {g:Bool} {n:Nd} (h:RunInv pre st g) (hf:fitN n=true) (hp:putOk st g n.depth n.kind.toNat=true) (hd:n.depth<=24) :
  RunInv (pre++[n]) (pathPut st (n.depth-1).toNat n.kind.toNat) (begunD g n):=by
 have hk:=zi1 hf
 obtain ⟨k,hkk⟩:∃ k:Nat,n.kind=k:=⟨n.kind.toNat,by omega⟩
 have hk16:k<16:=by omega
 have hs:=yv5 hk16
 rw [hkk,Int.toNat_natCast] at hp ⊢
 obtain ⟨⟨a1,a2⟩,a3,a4⟩:=zj1.1 hp
 obtain ⟨m,hm⟩:∃ m:Nat,n.depth=(m:Int)+1:=⟨(n.depth-1).toNat,by omega⟩
 have e1:(n.depth-1).toNat=m:=by omega
 rw [e1] at a3 a4 ⊢
 have hml:m<=st.length:=by omega
 have hlen:((pathPut st m k).length:Int)=n.depth:=by
  unfold pathPut
  split
  ·simp;omega
  ·simp;omega
 have hexpr:10<=n.kind->2<=n.depth:=fun hx=>by
  by_cases hm0:m=0
  ·exfalso
   rw [hm0] at a4
   unfold takesB at a4
   rw [if_pos rfl,(hs.2.1.2 (by omega):rSort k=4)] at a4
   simp at a4
  ·omega
 have hdecl:n.kind<=1->m=0/\g=false:=fun hx=>by
  have h1:rSort k=1:=hs.1.2 (by omega)
  unfold takesB at a4
  rw [h1] at a4
  by_cases hm0:m=0
  ·rw [if_pos hm0] at a4
   exact ⟨hm0,by simpa using a4⟩
  ·rw [if_neg hm0] at a4
   exact absurd (by simpa using a4) (yv6 _ _)
 refine ⟨h.shp.snoc hf (by omega) (by have:=h.len;omega) hexpr (fun hx=>(h.off (hdecl hx).2).1),by rw [hlen,zR1],fun hg=>?_⟩
 have hgf:g=false:=by
  unfold begunD at hg
  split at hg
  ·simp at hg;exact hg.1
  ·exact hg
 obtain ⟨o1,o2⟩:=h.off hgf
 have hm0:m=0:=by
  by_cases hm0:m=0
  ·exact hm0
  ·exfalso
   rcases o2 with o2 | ⟨k',c,hk',o2⟩
   ·rw [o2] at hml;simp at hml;omega
   ·rw [o2] at hml a4
    simp at hml
    have em:m=1:=by omega
    subst em
    unfold takesB at a4
    simp [zX1 hk'] at a4
    omega
 have hk1:n.kind<=1:=by
  unfold begunD at hg
  rw [if_pos (by omega),hkk,Int.toNat_natCast,hgf] at hg
  unfold takesB at a4
  rw [if_pos hm0] at a4
  have h2:rSort k≠2:=by simpa using hg
  have h1:rSort k=1:=by
   rcases Bool.or_eq_true _ _ ▸ a4 with h | h
   ·exact absurd (by simpa using h) h2
   ·simp at h;exact h.1
  have:=hs.1.1 h1
  omega
 refine ⟨fun x hx=>?_,.inr ⟨k,0,by omega,?_⟩⟩
 ·rcases List.mem_append.1 hx with hx | hx
  ·exact o1 x hx
  ·simp at hx;rw [hx];exact hk1
 ·unfold pathPut;rw [if_pos hm0]
theorem zX2:∀ (ns:List Nd) (i:Nat) (st:List Hold) (g:Bool) (pre:List Nd),RunInv pre st g->(runD ns i st g).1=0->Shp (pre++ns)
 | [],_,_,_,pre,h,_=>by rw [List.append_nil];exact h.shp
 | n::ns,i,st,g,pre,h,hr=>by
  rw [runD] at hr
  by_cases h1:fitN n=false
  ·rw [if_pos h1] at hr;simp at hr
  rw [if_neg h1] at hr
  by_cases h2:putOk st g n.depth n.kind.toNat=false
  ·rw [if_pos h2] at hr;simp at hr
  rw [if_neg h2] at hr
  by_cases h3:24<n.depth
  ·rw [if_pos h3] at hr;simp at hr
  rw [if_neg h3] at hr
  have:=zX2 ns (i+1) _ _ (pre++[n]) (h.put (by simpa using h1) (by simpa using h2) (by omega)) hr
  rwa [List.append_assoc] at this
theorem zN5 {ns:List Nd} (h:(shapeD ns).1=0):Shp ns:=by
 unfold shapeD at h
 split at h
 ·simp at h
 ·exact zX2 ns 0 [] false [] ⟨Shp.nil,rfl,fun _=>⟨fun x hx=>absurd hx (by simp),.inl rfl⟩⟩ h
end
end Go.Proofs.YtenoopfeplalnaaGreatDoor
