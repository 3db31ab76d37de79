import Derived.Test.YtgobgdljckamkaaGreatDoorKQj
set_option linter.unusedVariables false
set_option linter.unusedSimpArgs false
set_option linter.unnecessarySimpa false
namespace Go.Proofs.YtgobgdljckamkaaGreatDoor
section
open Go.RowKit
def TxtP (l:List UInt8) (ns:List Nd):Prop:=∃ P:RP,lexS l=.inr P.ts∧P.en=l.length∧(parE P).1=0∧(parE P).2.2=ns∧(programR ns).1=0
def TxtN (l:List UInt8):Prop:=(∃ p,lexS l=.inl p)∨∃ P:RP,lexS l=.inr P.ts∧P.en=l.length∧((parE P).1=0→(programR (parE P).2.2).1≠0)
def LProg (w:World) (l:List UInt8) (e:Ending) (w':World):Prop :=
 (∃ (ns:List Nd) (u:Nat→Value),TxtP l ns∧e=.returned (.tuple #[.agg #[u 0,u 1,u 2,u 3,u 4,u 5],.bool true])∧PrIs w' w.heap.size u ns (programR ns).2.2∧∀ n∈ns,n.Fit)
 ∨ (TxtN l∧e=.returned (.tuple #[.agg #[.slice none 0 0,.slice none 0 0,.slice none 0 0,.slice none 0 0,.slice none 0 0,.slice none 0 0],.bool false]))
set_option maxRecDepth 100000 in
set_option maxHeartbeats 4000000 in
theorem zB8 (s:ByteArray) (w:World) :
  Calls Tryz.prog 8 #[.string s] w fun e w'=>LProg w s.toList e w'∧Ok w w':=by
 go_enter Tryz.func8,Tryz.ntmps8
 go_wp2_with fail
 refine (yb4 s _).mono ?_
 rintro e w1 ⟨ht,hok⟩
 have HX:Hid (Six w1 w.heap.size (.slice none 0 0) (.slice none 0 0) (.slice none 0 0) (.slice none 0 0) (.slice none 0 0) (.slice none 0 0)):=(Six.new w _ _ _ _ _ _).below hok
 have HK:Hid (Ok w w1):=((Ok.refl w).alloc _).step hok
 obtain ⟨z1,c0,c1,c2,c3,c4,c5⟩:=HX.out.pc
 have wf:=HX.out.warm
 have hT:(∃ (ns:List Nd) (u:Nat→Value),TxtP s.toList ns∧e=.returned (.tuple #[.agg #[u 0,u 1,u 2,u 3,u 4,u 5],.int .i64 0,.int .i64 0])∧PrIs w1 (w.heap.size+1) u ns (programR ns).2.2∧∀ n∈ns,n.Fit)∨(TxtN s.toList∧∃ er at0:Int,er≠0∧e=.returned (.tuple #[.agg #[.slice none 0 0,.slice none 0 0,.slice none 0 0,.slice none 0 0,.slice none 0 0,.slice none 0 0],.int .i64 er,.int .i64 at0])):=by
  unfold TextIs at ht
  cases hl:lexS s.toList with
  | inl p =>
   rw [hl] at ht
   obtain ⟨er,at0⟩:=p
   exact .inr ⟨.inl ⟨_,hl⟩,_,_,by have:=ht.1;omega,ht.2⟩
  | inr ts =>
   rw [hl] at ht
   obtain ⟨P,h1,h2,h3⟩:=ht
   subst h1
   rcases h3 with ⟨k1,k2,u,k3,k4,k5⟩ | ⟨k1,er,at0,k2,k3⟩
   ·exact .inl ⟨_,u,⟨P,hl,h2,k1,rfl,k2⟩,k3,by simpa using k4,k5⟩
   ·exact .inr ⟨.inr ⟨P,hl,h2,k1⟩,er,at0,k2,k3⟩
 clear ht hok
 rcases hT with ⟨ns,u,hP,rfl,hu,hf⟩ | ⟨hn,er,at0,he,rfl⟩
 ·have HP:Hid (TxtP s.toList ns∧PrIs w1 (w.heap.size+1) u ns (programR ns).2.2∧∀ n∈ns,n.Fit):=⟨hP,hu,hf⟩
  clear hP hu hf
  obtain ⟨o0,p0,e0⟩:=za0 (HP.out.2.1 0 (by decide))
  obtain ⟨o1,p1,e1⟩:=za0 (HP.out.2.1 1 (by decide))
  obtain ⟨o2,p2,e2⟩:=za0 (HP.out.2.1 2 (by decide))
  obtain ⟨o3,p3,e3⟩:=za0 (HP.out.2.1 3 (by decide))
  obtain ⟨o4,p4,e4⟩:=za0 (HP.out.2.1 4 (by decide))
  obtain ⟨o5,p5,e5⟩:=za0 (HP.out.2.1 5 (by decide))
  have HEE:Hid (u 0=_∧u 1=_∧u 2=_∧u 3=_∧u 4=_∧u 5=_):=⟨e0,e1,e2,e3,e4,e5⟩
  rw [e0,e1,e2,e3,e4,e5]
  clear e0 e1 e2 e3 e4 e5
  go_wp2_with fail
  try simp only [Exit.inBlock,Exit.then]
  refine bodyPost_ret (zc6 rfl _ _ w.heap.size 27 _ (0,0) _ rfl (zd3 _ _ _ (za3 (zd4 HX.out.heap _ _ _ _ _ _)) (zd4 HX.out.heap _ _ _ _ _ _)) Tryz.underlying27 rfl Tryz.info27) rfl ?_
  refine ⟨.inl ⟨ns,u,HP.out.1,?_,?_,HP.out.2.2⟩,(show Ok w _ from zc9 HK.out (Nat.le_refl _) _ _ _ _ _ _).alloc _⟩
  ·obtain ⟨e0,e1,e2,e3,e4,e5⟩:=HEE.out
   rw [e0,e1,e2,e3,e4,e5];rfl
  ·intro k hk
   exact za7 (World.ownsRow.alloc (zC2 (HP.out.2.1 k hk) (by omega) _ _ _ _ _ _) _) (by omega)
 ·have HC:Hid (TxtN s.toList):=hn
  have hc2:(er==0)=false:=by rw [beq_eq_false_iff_ne];exact he
  clear hn he
  go_wp2_with fail
  try simp only [Exit.inBlock,Exit.then]
  refine bodyPost_ret (zc6 rfl _ _ w.heap.size 27 _ (0,0) _ rfl (zd3 _ _ _ (za3 (zd4 HX.out.heap _ _ _ _ _ _)) (zd4 HX.out.heap _ _ _ _ _ _)) Tryz.underlying27 rfl Tryz.info27) rfl ?_
  exact ⟨.inr ⟨HC.out,rfl⟩,(show Ok w _ from zc9 HK.out (Nat.le_refl _) _ _ _ _ _ _).alloc _⟩
end
section
open Go.RowKit
def txt0:List UInt8:=[118,97,114,32,120,59,32,105,102,32,120,32,62,32,48,32,123,32,125,32,101,108,115,101,32,123,32,115,107,105,112,59,32,125,32,119,104,105,108,101,32,116,114,117,101,32,123,32,125]
def ts0:List Tk:=[(0,[118,97,114],0,0),(0,[120],0,4),(2,[59],0,5),(0,[105,102],0,7),(0,[120],0,10),(2,[62],0,12),(1,[48],0,14),(2,[123],0,16),(2,[125],0,18),(0,[101,108,115,101],0,20),(2,[123],0,25),(0,[115,107,105,112],0,27),(2,[59],0,31),(2,[125],0,33),(0,[119,104,105,108,101],0,35),(0,[116,114,117,101],0,41),(2,[123],0,46),(2,[125],0,48)]
def ns0:List Nd:=[⟨1,0,⟨#[120]⟩,0,0,0⟩,⟨1,7,⟨#[]⟩,0,0,7⟩,⟨2,15,⟨#[]⟩,0,10,12⟩,⟨3,12,⟨#[120]⟩,0,0,10⟩,⟨3,10,⟨#[]⟩,0,0,14⟩,⟨2,9,⟨#[]⟩,0,0,16⟩,⟨2,9,⟨#[]⟩,0,0,25⟩,⟨3,6,⟨#[]⟩,0,0,27⟩,⟨1,8,⟨#[]⟩,0,0,35⟩,⟨2,11,⟨#[]⟩,1,0,41⟩,⟨2,9,⟨#[]⟩,0,0,46⟩]
def es0:List Ed:=[⟨0,2,5,2,true,false⟩,⟨0,1,5,2,false,false⟩,⟨1,2,4,7,false,false⟩,⟨2,2,5,9,true,true⟩,⟨2,3,5,9,false,true⟩]
theorem ye1:lexS txt0=.inr ts0:=by kernel_rfl
theorem yk3 (tv:Value) (B:Nat) (xs:List Value):parE (⟨tv,B,xs,ts0,49⟩:RP)=(0,0,ns0):=by kernel_rfl
theorem fx_el:elF ns0=es0:=by kernel_rfl
theorem fx_pt:ptF ns0 ns0.length=3:=by kernel_rfl
theorem zV4:(programR ns0).1=0:=by kernel_rfl
theorem fx_at:ptF ns0 1=0:=by kernel_rfl
theorem fx_of {P:RP} (h1:lexS txt0=.inr P.ts) (h2:P.en=txt0.length):parE P=(0,0,ns0):=by
 obtain ⟨tv,B,xs,ts,en⟩:=P
 rw [ye1] at h1
 injection h1 with h1
 subst h1
 have e:en=49:=h2
 subst e
 exact yk3 tv B xs
theorem yk4 {ns:List Nd} (h:TxtP txt0 ns):ns=ns0:=by
 obtain ⟨P,h1,h2,_,h3,_⟩:=h
 rw [fx_of h1 h2] at h3
 exact h3.symm
theorem yk5:¬TxtN txt0:=by
 rintro (⟨p,h⟩ | ⟨P,h1,h2,h3⟩)
 ·rw [ye1] at h;cases h
 ·rw [fx_of h1 h2] at h3
  exact h3 rfl zV4
theorem zh3 {α:Type} {f:α→α→Bool} (hf:∀ a,f a a=true):∀ (l:List α),likeB f l l=true
 | []=>rfl
 | a::s=>by rw [likeB,hf,zh3 hf s];rfl
theorem zt1 (l:Ls):sameLs l l=true:=by
 unfold sameLs
 have h1:∀ a,eqSt a a=true:=fun a=>by unfold eqSt;simp
 have h2:∀ a,eqAr a a=true:=fun a=>by unfold eqAr;simp
 have h3:∀ a,eqIn a a=true:=fun a=>by unfold eqIn;simp
 rw [zh3 h1,zh3 h2,zh3 h3,zh3 h3,zh3 h3];rfl
theorem zH7 {ns:List Nd} (hok:∀ n∈ns,n.Ok) (h:(programR ns).1=0):goodD ns (programR ns).2.2=true:=by
 rw [zT9 ns _ hok,h,zt1];rfl
theorem yk6 {i:Nat} (h:i<5):∃ t:Int,(edL es0)[i*6+1]?=some (.int .i64 t)∧(#[Value.int IntKind.i64 2,Value.int IntKind.i64 1,Value.int IntKind.i64 2,Value.int IntKind.i64 2,Value.int IntKind.i64 3]:Array Value)[i]?=some (.int .i64 t):=by
 rcases (show i=0∨i=1∨i=2∨i=3∨i=4 by omega) with rfl | rfl | rfl | rfl | rfl<;>exact ⟨_,rfl,rfl⟩
set_option maxRecDepth 100000 in
set_option maxHeartbeats 4000000 in
theorem yk7 (w:World) (hR:RulesIs w) (hS:StepsIs w) :
  Calls Tryz.prog 5 #[] w fun e w'=>e=.returned (.bool true)∧Ok w w':=by
 have HR:=hid hR
 have HS:=hid hS
 clear hR hS
 go_enter Tryz.func5,Tryz.ntmps5
 go_wp2_with fail
 refine (zB8 _ w).mono ?_
 rintro e w1 ⟨ht,hk1⟩
 have htx:(⟨#[118,97,114,32,120,59,32,105,102,32,120,32,62,32,48,32,123,32,125,32,101,108,115,101,32,123,32,115,107,105,112,59,32,125,32,119,104,105,108,101,32,116,114,117,101,32,123,32,125]⟩:ByteArray).toList=txt0:=by rw [ByteArray.toList_eq];rfl
 rw [htx] at ht
 rcases ht with ⟨ns,u,h1,rfl,h2,h3⟩ | ⟨h1,_⟩
 rotate_left
 ·exact absurd h1 yk5
 have hns:=yk4 h1
 obtain ⟨m,hm⟩:∃ x,x=(programR ns).2.2:=⟨_,rfl⟩
 rw [←hm] at h2
 have HK1:Hid (Ok w w1):=hk1
 have HU1:Hid (PrIs w1 w.heap.size u ns m):=h2
 have HOK:Hid (∀ n∈ns,n.Ok):=fun n hn=>zT5 (h3 n hn)
 have HPG:Hid (goodD ns m=true):=by unfold Hid;rw [hm];exact zH7 HOK.out (by rw [hns];exact zV4)
 have HNS:Hid (ns=ns0):=hns
 clear htx hk1 h1 h2 h3 hns hm
 obtain ⟨o0,p0,e0⟩:=za0 (HU1.out 0 (by decide))
 obtain ⟨o1,p1,e1⟩:=za0 (HU1.out 1 (by decide))
 obtain ⟨o2,p2,e2⟩:=za0 (HU1.out 2 (by decide))
 obtain ⟨o3,p3,e3⟩:=za0 (HU1.out 3 (by decide))
 obtain ⟨o4,p4,e4⟩:=za0 (HU1.out 4 (by decide))
 obtain ⟨o5,p5,e5⟩:=za0 (HU1.out 5 (by decide))
 have HPR:Hid (ProgIs w1 (.slice o0 (nOf ns.length m 0) p0) (.slice o1 (nOf ns.length m 1) p1) (.slice o2 (nOf ns.length m 2) p2) (.slice o3 (nOf ns.length m 3) p3) (.slice o4 (nOf ns.length m 4) p4) (.slice o5 (nOf ns.length m 5) p5) ns m):=by have:=HU1.out.prog HOK.out;rw [e0,e1,e2,e3,e4,e5] at this;exact this
 rw [e0,e1,e2,e3,e4,e5]
 obtain ⟨n0,hn0⟩:∃ x,x=nOf ns.length m 0:=⟨_,rfl⟩
 obtain ⟨n1,hn1⟩:∃ x,x=nOf ns.length m 1:=⟨_,rfl⟩
 obtain ⟨n2,hn2⟩:∃ x,x=nOf ns.length m 2:=⟨_,rfl⟩
 obtain ⟨n3,hn3⟩:∃ x,x=nOf ns.length m 3:=⟨_,rfl⟩
 obtain ⟨n4,hn4⟩:∃ x,x=nOf ns.length m 4:=⟨_,rfl⟩
 obtain ⟨n5,hn5⟩:∃ x,x=nOf ns.length m 5:=⟨_,rfl⟩
 rw [←hn0,←hn1,←hn2,←hn3,←hn4,←hn5] at HPR ⊢
 clear e0 e1 e2 e3 e4 e5 hn0 hn1 hn2 hn3 hn4 hn5 HU1
 go_wp2_with fail
 obtain ⟨w2,hw2⟩:∃ x,x=w1.alloc (Obj.cells #[Value.slice o0 n0 p0,Value.slice o1 n1 p1,Value.slice o2 n2 p2,Value.slice o3 n3 p3,Value.slice o4 n4 p4,Value.slice o5 n5 p5] 27):=⟨_,rfl⟩
 obtain ⟨gp,hgp⟩:∃ x,x=w1.heap.size:=⟨_,rfl⟩
 rw [←hw2,←hgp]
 have hk2:Ok w1 w2:=by rw [hw2];exact (Ok.refl _).alloc _
 have HK2:Hid (Ok w w2):=HK1.out.step hk2
 have HX2:Hid (Six w2 gp (.slice o0 n0 p0) (.slice o1 n1 p1) (.slice o2 n2 p2) (.slice o3 n3 p3) (.slice o4 n4 p4) (.slice o5 n5 p5)):=by unfold Hid;rw [hw2,hgp];exact Six.new _ _ _ _ _ _ _
 have HP2:Hid (ProgIs w2 (.slice o0 n0 p0) (.slice o1 n1 p1) (.slice o2 n2 p2) (.slice o3 n3 p3) (.slice o4 n4 p4) (.slice o5 n5 p5) ns m):=HPR.out.below hk2
 clear hw2 hgp hk2 HPR
 refine (zM1 _ _ _ _ _ _ ns m w2 (HR.out.below HK2.out) (HS.out.below HK2.out) HP2.out HPG.out).mono ?_
 rintro e w3 ⟨u2,ev,rfl,hu2,hev,hk3⟩
 rw [HNS.out,fx_el,show es0.length=5 from rfl] at hev
 have HK3:Hid (Ok w w3):=HK2.out.step hk3
 have HX3:Hid (Six w3 gp (.slice o0 n0 p0) (.slice o1 n1 p1) (.slice o2 n2 p2) (.slice o3 n3 p3) (.slice o4 n4 p4) (.slice o5 n5 p5)):=HX2.out.below hk3
 have HP3:Hid (ProgIs w3 (.slice o0 n0 p0) (.slice o1 n1 p1) (.slice o2 n2 p2) (.slice o3 n3 p3) (.slice o4 n4 p4) (.slice o5 n5 p5) ns m):=HP2.out.below hk3
 have HEV:Hid (w3.ownsRow w2.heap.size 53 6 ev 5 (edL es0)):=hev
 obtain ⟨ge,ce,rfl,hge⟩:=hev.form (by decide)
 have HU:Hid (PrIs w3 w2.heap.size u2 ns (lsOf (readD ns rd0).2.2)):=hu2
 obtain ⟨a0,q0,e0⟩:=za0 (HU.out 0 (by decide))
 obtain ⟨a1,q1,e1⟩:=za0 (HU.out 1 (by decide))
 obtain ⟨a2,q2,e2⟩:=za0 (HU.out 2 (by decide))
 obtain ⟨a3,q3,e3⟩:=za0 (HU.out 3 (by decide))
 obtain ⟨a4,q4,e4⟩:=za0 (HU.out 4 (by decide))
 obtain ⟨a5,q5,e5⟩:=za0 (HU.out 5 (by decide))
 rw [e0,e1,e2,e3,e4,e5]
 obtain ⟨m0,hm0⟩:∃ x,x=nOf ns.length (lsOf (readD ns rd0).2.2) 0:=⟨_,rfl⟩
 obtain ⟨m1,hm1⟩:∃ x,x=nOf ns.length (lsOf (readD ns rd0).2.2) 1:=⟨_,rfl⟩
 obtain ⟨m2,hm2⟩:∃ x,x=nOf ns.length (lsOf (readD ns rd0).2.2) 2:=⟨_,rfl⟩
 obtain ⟨m3,hm3⟩:∃ x,x=nOf ns.length (lsOf (readD ns rd0).2.2) 3:=⟨_,rfl⟩
 obtain ⟨m4,hm4⟩:∃ x,x=nOf ns.length (lsOf (readD ns rd0).2.2) 4:=⟨_,rfl⟩
 obtain ⟨m5,hm5⟩:∃ x,x=nOf ns.length (lsOf (readD ns rd0).2.2) 5:=⟨_,rfl⟩
 rw [←hm0,←hm1,←hm2,←hm3,←hm4,←hm5]
 have hpt:ptF ns ns.length=3:=by rw [HNS.out];exact fx_pt
 rw [hpt]
 clear hk3 hu2 hev hge HU e0 e1 e2 e3 e4 e5 hm0 hm1 hm2 hm3 hm4 hm5 HX2 HP2 hpt
 obtain ⟨z1,c0,c1,c2,c3,c4,c5⟩:=HX3.out.pc
 go_wp2_with fail
 obtain ⟨w4,hw4⟩:∃ x,x=(w3.alloc (Obj.cells #[Value.slice a0 m0 q0,Value.slice a1 m1 q1,Value.slice a2 m2 q2,Value.slice a3 m3 q3,Value.slice a4 m4 q4,Value.slice a5 m5 q5,Value.int IntKind.i64 4,Value.int IntKind.i64 3,Value.slice (some ⟨ge,0,none⟩) 5 ce] 42)).alloc (Obj.cells #[Value.int IntKind.i64 2,Value.int IntKind.i64 1,Value.int IntKind.i64 2,Value.int IntKind.i64 2,Value.int IntKind.i64 3] 50):=⟨_,rfl⟩
 obtain ⟨gt,hgt⟩:∃ x,x=w3.heap.size+1:=⟨_,rfl⟩
 obtain ⟨gg,hgg⟩:∃ x,x=w3.heap.size:=⟨_,rfl⟩
 rw [←hw4,←hgt,←hgg]
 have hk4:Ok w3 w4:=by rw [hw4];exact ((Ok.refl _).alloc _).alloc _
 have HK4:Hid (Ok w w4):=HK3.out.step hk4
 have HP4:Hid (ProgIs w4 (.slice o0 n0 p0) (.slice o1 n1 p1) (.slice o2 n2 p2) (.slice o3 n3 p3) (.slice o4 n4 p4) (.slice o5 n5 p5) ns m):=HP3.out.below hk4
 have HX4:Hid (Six w4 gp (.slice o0 n0 p0) (.slice o1 n1 p1) (.slice o2 n2 p2) (.slice o3 n3 p3) (.slice o4 n4 p4) (.slice o5 n5 p5)):=HX3.out.below hk4
 have HE4:Hid (w4.ownsRow w2.heap.size 53 6 (.slice (some ⟨ge,0,none⟩) 5 ce) 5 (edL es0)):=za1 HEV.out hk4
 have HG4:Hid (w4.heap[gg]?=some (.cells #[Value.slice a0 m0 q0,Value.slice a1 m1 q1,Value.slice a2 m2 q2,Value.slice a3 m3 q3,Value.slice a4 m4 q4,Value.slice a5 m5 q5,Value.int IntKind.i64 4,Value.int IntKind.i64 3,Value.slice (some ⟨ge,0,none⟩) 5 ce] 42 (0,0))):=by unfold Hid;rw [hw4,hgg];exact zd3 _ _ _ (by simp) (zd0 _ _ _ (by simp))
 have HT4:Hid (w4.heap[gt]?=some (.cells #[Value.int IntKind.i64 2,Value.int IntKind.i64 1,Value.int IntKind.i64 2,Value.int IntKind.i64 2,Value.int IntKind.i64 3] 50 (0,0))):=by unfold Hid;rw [hw4,hgt];exact zd0 _ _ _ (by simp)
 clear hw4 hgt hgg hk4 HX3 HP3 HEV z1 c0 c1 c2 c3 c4 c5
 go_loopw [6] (fun t wr=>∃ i:Nat,i≤5∧t=.int .i64 (i:Nat)∧Hid (Ok w4 wr)) (fun t _=>5-(intOf t).toNat)
 case atStart=>exact ⟨0,by omega,rfl,Ok.refl _⟩
 case round =>
  obtain ⟨i,hi,rfl,HWR⟩:=hrel
  have g8:wr.cell? ⟨gg,8,none⟩=some (.slice (some ⟨ge,0,none⟩) 5 ce):=(cell_of_row _ _ 8 _ _ _ (Ok.row' HWR.out HG4.out)).trans (by simp)
  have lgg:=za3 (Ok.row' HWR.out HG4.out)
  have hee:=za1 HE4.out HWR.out
  have lge:=(hee.lt ge rfl).2
  by_cases h5:i<5
  ·have h5':(i:Int)<5:=by omega
   obtain ⟨t,t1,t2⟩:=yk6 h5
   have x1:=hee.cells (g:=ge) rfl _ _ t1
   rw [zc0,Nat.zero_add] at x1
   have x2:wr.cell? ⟨gt,i,none⟩=some (.int .i64 t):=(cell_of_row _ _ i _ _ _ (Ok.row' HWR.out HT4.out)).trans t2
   have lgt:=za3 (Ok.row' HWR.out HT4.out)
   have hiw:IntKind.i64.wrap ((i:Int)+1)=((i+1:Nat):Int):=zb0 (by omega)
   clear hee t1 t2
   go_wp2_with fail
   go_quiet (fail)
   go_wp2_with fail
   go_roundw
   case rel=>exact ⟨i+1,h5,rfl,HWR.out.draws _⟩
   case measure=>simp only [intOf,Int.toNat_natCast];omega
  ·have h5':¬(i:Int)<5:=by omega
   have x4:=hee.cells (g:=ge) rfl 22 (.bool true) rfl
   have x5:=hee.cells (g:=ge) rfl 23 (.bool true) rfl
   rw [zc0,Nat.zero_add] at x4 x5
   go_wp2_with fail
   obtain ⟨w5,hw5⟩:∃ x,x=wr.alloc (Obj.cells #[Value.string ⟨#[120]⟩] 9):=⟨_,rfl⟩
   obtain ⟨gx,hgx⟩:∃ x,x=wr.heap.size:=⟨_,rfl⟩
   have hk5:Ok wr w5:=by rw [hw5];exact (Ok.refl _).alloc _
   have hgx5:w5.heap[gx]?=some (.cells #[Value.string ⟨#[120]⟩] 9 (0,0)):=by rw [hw5,hgx];exact zd0 _ _ _ (by simp)
   rw [←hw5,←hgx]
   have HK5:Hid (Ok w4 w5):=HWR.out.step hk5
   have HPX:Hid (ProgIs w5 (.slice none 0 0) (.slice (some ⟨gx,0,none⟩) 1 1) (.slice none 0 0) (.slice none 0 0) (.slice none 0 0) (.slice none 0 0) [] ⟨[⟨#[120]⟩],[],[],[],[]⟩):=by
    refine ⟨⟨fun n hn=>(by cases hn),none,0,rfl,Nat.zero_le _,by decide,.inl rfl⟩,⟨by decide,_,1,rfl,.inr ⟨gx,0,rfl,⟨za3 hgx5,fun i hi=>?_⟩⟩⟩,⟨by decide,none,0,rfl,.inl rfl⟩,⟨by decide,none,0,rfl,.inl rfl⟩,⟨by decide,none,0,rfl,.inl rfl⟩,⟨by decide,none,0,rfl,.inl rfl⟩⟩
    have:i=0:=by simp at hi;omega
    subst this
    exact (cell_of_row _ _ 0 _ _ _ hgx5).trans (by simp)
   clear hw5 hgx hk5 hgx5 x4 x5 g8 lgg lge hee
   refine (zV1 _ _ _ _ _ _ [] _ w5 (HR.out.below (HK4.out.step HK5.out)) HPX.out (by kernel_rfl)).mono ?_
   rintro e w6 ⟨rfl,hk6⟩
   have HK6:Hid (Ok w4 w6):=HK5.out.step hk6
   have g8:w6.cell? ⟨gg,8,none⟩=some (.slice (some ⟨ge,0,none⟩) 5 ce):=(cell_of_row _ _ 8 _ _ _ (Ok.row' HK6.out HG4.out)).trans (by simp)
   have lgg:=za3 (Ok.row' HK6.out HG4.out)
   have hee:=za1 HE4.out HK6.out
   have lge:=(hee.lt ge rfl).2
   have x4:=hee.cells (g:=ge) rfl 22 (.bool true) rfl
   have x5:=hee.cells (g:=ge) rfl 23 (.bool true) rfl
   rw [zc0,Nat.zero_add] at x4 x5
   obtain ⟨z1,c0,c1,c2,c3,c4,c5⟩:=(HX4.out.below HK6.out).pc
   clear hk6 hee HPX
   go_wp2_with fail
   have HAT:Hid (cAt ns m 1=0):=by
    unfold Hid cAt
    have hl:ns.length=11:=by rw [HNS.out];rfl
    have hd:kdA ns (1:Int).toNat=7:=by rw [HNS.out];rfl
    rw [if_pos ⟨by omega,by omega,HPG.out,by omega,by omega⟩]
    show ((ptF ns 1:Nat):Int)=0
    rw [HNS.out,fx_at];rfl
   have hk7:Ok w4 (w6.alloc (Obj.cells #[Value.slice none 0 0,Value.slice none 0 0,Value.slice none 0 0,Value.slice none 0 0,Value.slice none 0 0,Value.slice none 0 0,Value.int IntKind.i64 0,Value.int IntKind.i64 0,Value.slice none 0 0] 42)):=HK6.out.alloc _
   refine (yk2 _ _ _ _ _ _ ns m 1 _ (HR.out.below (HK4.out.step hk7)) (HS.out.below (HK4.out.step hk7)) (HP4.out.below hk7)).mono ?_
   rintro e w7 ⟨rfl,hk8⟩
   rw [HAT.out]
   have HK8:Hid (Ok w w7):=HK4.out.step (hk7.step hk8)
   clear hk7 hk8
   go_wp2_with fail
   go_ret
   exact ⟨rfl,HK8.out⟩
end
end Go.Proofs.YtgobgdljckamkaaGreatDoor
