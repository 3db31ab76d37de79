import Derived.Test.YtgobgdljckamkaaGreatDoorCards
import Derived.Test.YtgobgdljckamkaaGreatDoorTie
import Derived.ProofKit
import Derived.OpenShut
import Derived.LaidMore
import Derived.SevenTiedAt
import Derived.Stop.LaidErr
import Derived.Lib.LaidTab
import Derived.Test.YtgobgdljckamkaaGreatDoorKWe
import Derived.Test.YtgobgdljckamkaaGreatDoorKWf
set_option linter.unusedVariables false
set_option linter.unusedSimpArgs false
set_option linter.unnecessarySimpa false
namespace Go.Proofs.YtgobgdljckamkaaGreatDoor
section
open Go.RowKit
def txt1:List UInt8:=[118,97,114,32,120,59,32,97,114,114,97,121,32,97,91,50,93,59,32,119,104,105,108,101,32,120,32,60,32,51,32,123,32,97,91,120,93,32,58,61,32,120,32,47,32,50,59,32,115,107,105,112,59,32,125]
def ts1:List Tk:=match lexS txt1 with | .inr ts=>ts | .inl _=>[]
def ns1:List Nd:=(parE (⟨.bool false,0,[],ts1,55⟩:RP)).2.2
theorem ye4:lexS txt1=.inr ts1:=by kernel_rfl
theorem yl0 (tv:Value) (B:Nat) (xs:List Value):parE (⟨tv,B,xs,ts1,55⟩:RP)=(0,0,ns1):=by kernel_rfl
theorem yi3:(programR ns1).1=0:=by kernel_rfl
theorem ym1:¬TxtN txt1:=by
 have key:∀ P:RP,lexS txt1=.inr P.ts→P.en=txt1.length→parE P=(0,0,ns1):=fun P h1 h2=>by
  obtain ⟨tv,B,xs,ts,en⟩:=P
  rw [ye4] at h1
  injection h1 with h1
  subst h1
  have e:en=55:=h2
  subst e
  exact yl0 tv B xs
 rintro (⟨p,h⟩ | ⟨P,h1,h2,h3⟩)
 ·rw [ye4] at h;cases h
 ·rw [key P h1 h2] at h3
  exact h3 rfl yi3
theorem zN1 {ns:List Nd} (h0:(readD ns rd0).1=0) (hok:∀ n∈ns,n.Ok):ns.length≤300∧(lsOf (readD ns rd0).2.2).sy.length=ns.length∧(lsOf (readD ns rd0).2.2).so.length=ns.length∧(lsOf (readD ns rd0).2.2).sc.length≤300∧(lsOf (readD ns rd0).2.2).ar.length≤300∧(lsOf (readD ns rd0).2.2).si.length≤300:=by
 have hl:=(zg4 ns h0).2
 have hp:=zl0 ns hok
 have hz:(programR ns).1=0:=by rw [hp];exact h0
 have e:(programR ns).2.2=lsOf (readD ns rd0).2.2:=by rw [hp]
 have hs:(shapeR ns).1=0:=by
  by_cases c:(shapeR ns).1=0
  ·exact c
  ·unfold programR at hz;rw [if_neg c] at hz;exact absurd hz c
 have hq:programR ns=progFrom ns ns 0 ⟨[],[],[],[],[]⟩:=by unfold programR;rw [if_pos hs]
 rw [←e,hq]
 rw [hq] at hz
 have:=zo0 ns ns 0 ⟨[],[],[],[],[]⟩ hz
 simp only [List.length_nil,Nat.zero_add] at this
 omega
structure PG (w:World) (u:Nat→Value) (ns:List Nd) (m:Ls):Prop where
 pr:PrIs w 0 u ns m
 ok:∀ n∈ns,n.Ok
 rd:(readD ns rd0).1=0∧m=lsOf (readD ns rd0).2.2
 good:goodD ns m=true
theorem PG.below {w w':World} {u:Nat→Value} {ns:List Nd} {m:Ls} (h:PG w u ns m) (hk:Ok w w'):PG w' u ns m:=⟨fun k hh=>za1 (h.pr k hh) hk,h.ok,h.rd,h.good⟩
theorem PG.lens {w:World} {u:Nat→Value} {ns:List Nd} {m:Ls} (h:PG w u ns m):ns.length≤300∧m.sy.length=ns.length∧m.so.length=ns.length∧m.sc.length≤300∧m.ar.length≤300∧m.si.length≤300:=by
 have:=zN1 h.rd.1 h.ok
 rw [←h.rd.2] at this
 exact this
theorem PG.edges {w:World} {u:Nat→Value} {ns:List Nd} {m:Ls} (h:PG w u ns m):(elF ns).length≤600:=by
 have h1:=zW2 (zs8 (zj2 h.rd.1))
 have h2:=zn3 ns ns.length
 have h3:=h.lens
 omega
theorem PG.of_text {w:World} {B:Nat} {u:Nat→Value} {ns:List Nd} {l:List UInt8} (t1:TxtP l ns) (t2:PrIs w B u ns (programR ns).2.2) (t3:∀ n∈ns,n.Fit):PG w u ns (programR ns).2.2:=by
 have hok:∀ n∈ns,n.Ok:=fun n hn=>zT5 (t3 n hn)
 obtain ⟨P,_,_,_,_,hp⟩:=t1
 have hq:=zl0 ns hok
 refine ⟨fun k hk=>za7 (t2 k hk) (Nat.zero_le _),hok,⟨?_,?_⟩,zH7 hok hp⟩
 ·rw [hq] at hp;exact hp
 ·rw [hq]
theorem PG.forms {w:World} {u:Nat→Value} {ns:List Nd} {m:Ls} (h:PG w u ns m):∀ k,k<6→∃ ao cap,u k=.slice ao (nOf ns.length m k) cap:=fun k hk=>za0 (h.pr k hk)
theorem yi9 (s:ByteArray) (w:World) :
  Calls Tryz.prog 8 #[.string s] w fun e w'=>∃ (a:Nat→Option Addr) (n c:Nat→Nat) (b:Bool),e=.returned (.tuple #[.agg #[.slice (a 0) (n 0) (c 0),.slice (a 1) (n 1) (c 1),.slice (a 2) (n 2) (c 2),.slice (a 3) (n 3) (c 3),.slice (a 4) (n 4) (c 4),.slice (a 5) (n 5) (c 5)],.bool b])∧Hid (b=true→∃ ns m,PG w' (slO a n c) ns m)∧Hid (b=false→TxtN s.toList)∧Hid (Ok w w'):=by
 refine (zB8 s w).mono ?_
 rintro e w' ⟨h,hk⟩
 rcases h with ⟨ns,u,t1,rfl,t2,t3⟩ | ⟨t1,rfl⟩
 ·have hp:=PG.of_text t1 t2 t3
  obtain ⟨a,n,c,hu⟩:∃ (a:Nat→Option Addr) (n c:Nat→Nat),∀ k,k<6→u k=.slice (a k) (n k) (c k):=by
   have hf:∀ k,∃ (ao:Option Addr) (cap:Nat),k<6→u k=.slice ao (nOf ns.length (programR ns).2.2 k) cap:=fun k=>by
    by_cases hk:k<6
    ·obtain ⟨ao,cap,e⟩:=hp.forms k hk;exact ⟨ao,cap,fun _=>e⟩
    ·exact ⟨none,0,fun h=>absurd h hk⟩
   exact ⟨fun k=>(hf k).choose,fun k=>nOf ns.length (programR ns).2.2 k,fun k=>(hf k).choose_spec.choose,fun k hk=>(hf k).choose_spec.choose_spec hk⟩
  refine ⟨a,n,c,true,?_,fun _=>⟨ns,_,⟨fun k hk=>?_,hp.ok,hp.rd,hp.good⟩⟩,fun h=>(by cases h),hk⟩
  ·rw [hu 0 (by decide),hu 1 (by decide),hu 2 (by decide),hu 3 (by decide),hu 4 (by decide),hu 5 (by decide)]
  ·show w'.ownsRow 0 (TY k) (SZ k) (.slice (a k) (n k) (c k)) _ _
   rw [←hu k hk]
   exact hp.pr k hk
 ·exact ⟨fun _=>none,fun _=>0,fun _=>0,false,rfl,fun h=>(by cases h),fun _=>t1,hk⟩
end
section
open Go.RowKit
def lnK (ns:Nat→List Nd) (m:Nat→Ls) (i j:Nat):Nat:=if j=6 then (elF (ns i)).length else nOf (ns i).length (m i) j
def xK (ns:Nat→List Nd) (m:Nat→Ls) (i j:Nat):List Value:=if j=6 then edL (elF (ns i)) else xOf (ns i) (ns i).length (m i) j
structure KG (w:World) (B k:Nat) (U:Nat→Nat→Value) (ns:Nat→List Nd) (m:Nat→Ls):Prop where
 rows:∀ i,i<k→∀ j,j<7→w.ownsRow B (TY7 j) (SZ7 j) (U i j) (lnK ns m i j) (xK ns m i j)
 ds:∀ i j i' j',i<k→j<7→i'<k→j'<7→¬(i=i'∧j=j')→∀ b,(U i j).ownBlock=some b→(U i' j').ownBlock≠some b
theorem KG.ok {w w':World} {B k:Nat} {U:Nat→Nat→Value} {ns:Nat→List Nd} {m:Nat→Ls} (h:KG w B k U ns m) (hk:Ok w w'):KG w' B k U ns m:=⟨fun i hi j hj=>za1 (h.rows i hi j hj) hk,h.ds⟩
theorem KG.grow {w w':World} {B B' k l:Nat} {U:Nat→Nat→Value} {ns:Nat→List Nd} {m:Nat→Ls} {gv:Value} {ys:List Value} (h:KG w B k U ns m) (hg:w.ownsRow B' 42 9 gv l ys) (hw:w.grownBy w' gv.ownBlock):KG w' B k U ns m:=⟨fun i hi j hj=>yd4 (h.rows i hi j hj) (zI4 j hj) hg hw,h.ds⟩
theorem zW8:∀ j,j<7→∀ j',j'<7→j≠j'→TY7 j=TY7 j'→3≤j∧j≤5∧3≤j'∧j'≤5:=fun j hj j' hj' hne e=>by
 obtain rfl | rfl | rfl | rfl | rfl | rfl | rfl:j=0∨j=1∨j=2∨j=3∨j=4∨j=5∨j=6:=by omega
 all_goals obtain rfl | rfl | rfl | rfl | rfl | rfl | rfl:j'=0∨j'=1∨j'=2∨j'=3∨j'=4∨j'=5∨j'=6:=by omega
 all_goals first | exact absurd rfl hne | exact absurd e (by decide) | decide
theorem zW9 {w:World} {B B':Nat} {e e':TypeId} {s s' n n':Nat} {v v':Value} {xs xs':List Value} (h:w.ownsRow B e s v n xs) (h':w.ownsRow B' e' s' v' n' xs') (he:e≠e'):∀ b,v.ownBlock=some b→v'.ownBlock≠some b:=fun b hb hb'=>by
 obtain ⟨c1,f1,k1⟩:=zm0 h b hb
 obtain ⟨c2,f2,k2⟩:=zm0 h' b hb'
 rw [k1] at k2
 injection k2 with k2
 injection k2 with _ k3
 exact he k3
def gU (u:Nat→Value) (ev:Value) (j:Nat):Value:=if j=6 then ev else u j
theorem KG.next {w w':World} {B k:Nat} {U:Nat→Nat→Value} {ns:Nat→List Nd} {m:Nat→Ls} {u:Nat→Value} {ev:Value} (h:KG w B k U ns m) (hB:B≤w.heap.size) (hk:Ok w w') (ap:Ap u) (pr:PrIs w' w.heap.size u (ns k) (m k)) (he:w'.ownsRow w.heap.size 53 6 ev (elF (ns k)).length (edL (elF (ns k)))):KG w' B (k+1) (fun i=>if i=k then gU u ev else U i) ns m:=by
 have new:∀ j,j<7→w'.ownsRow w.heap.size (TY7 j) (SZ7 j) (gU u ev j) (lnK ns m k j) (xK ns m k j):=fun j hj=>by
  by_cases e:j=6
  ·subst e;exact he
  ·have h6:j<6:=by omega
   have:=pr j h6
   unfold gU lnK xK TY7 SZ7
   rw [if_neg e,if_neg e,if_neg e,if_neg e,if_neg e]
   exact this
 have dsn:∀ j j',j<7→j'<7→j≠j'→∀ b,(gU u ev j).ownBlock=some b→(gU u ev j').ownBlock≠some b:=fun j j' hj hj' hne=>by
  by_cases e:TY7 j=TY7 j'
  ·obtain ⟨a1,a2,a3,a4⟩:=zW8 j hj j' hj' hne e
   unfold gU
   rw [if_neg (by omega),if_neg (by omega)]
   intro b hb hb'
   rcases Nat.lt_or_gt_of_ne hne with l | l
   ·have:=ap j j' a1 l (by omega) b b hb hb';omega
   ·have:=ap j' j a3 l (by omega) b b hb' hb;omega
  ·exact zW9 (new j hj) (new j' hj') e
 refine ⟨fun i hi j hj=>?_,fun i j i' j' hi hj hi' hj' hne b hb=>?_⟩
 ·by_cases e:i=k
  ·subst e;simp only [if_true];exact za7 (new j hj) hB
  ·simp only [if_neg e];exact za1 (h.rows i (by omega) j hj) hk
 ·by_cases e:i=k
  ·by_cases e':i'=k
   ·subst e
    simp only [if_true,if_pos e'] at hb ⊢
    exact dsn j j' hj hj' (fun e2=>hne ⟨e'.symm,e2⟩) b hb
   ·simp only [if_pos e,if_neg e'] at hb ⊢
    intro h2
    have h3:=((new j hj).lt b hb).1
    have h4:=((h.rows i' (by omega) j' hj').lt b h2).2
    omega
  ·by_cases e':i'=k
   ·simp only [if_neg e,if_pos e'] at hb ⊢
    intro h2
    have h3:=((new j' hj').lt b h2).1
    have h4:=((h.rows i (by omega) j hj).lt b hb).2
    omega
   ·simp only [if_neg e,if_neg e'] at hb ⊢
    exact h.ds i j i' j' (by omega) hj (by omega) hj' hne b hb
structure K4 (W:World) (gp go:Nat) (pa:Nat→Nat→Option Addr) (pn pc og od:Nat→Nat→Nat) (ns:Nat→List Nd) (m:Nat→Ls):Prop where
 pcell:∀ k,k<4→∀ q,q<6→W.cell? ⟨gp,k*6+q,none⟩=some (.slice (pa k q) (pn k q) (pc k q))
 ocell:∀ k,k<4→∀ q,q<6→W.cell? ⟨go,k*6+q,none⟩=some (.slice (some ⟨og k q,0,none⟩) (nOf (ns k).length (m k) q) (od k q))
 lp:gp<W.heap.size
 lo:go<W.heap.size
 pg:∀ k,k<4→PG W (slO (pa k) (pn k) (pc k)) (ns k) (m k)
 cr:∀ k,k<4→CRows W 2 (og k) (od k) (ns k) (m k)
 up:∀ k,k<4→∀ i j,i<j→j<6→og k i<og k j
theorem K4.ok {W W':World} {gp go:Nat} {pa:Nat→Nat→Option Addr} {pn pc og od:Nat→Nat→Nat} {ns:Nat→List Nd} {m:Nat→Ls} (h:K4 W gp go pa pn pc og od ns m) (hk:Ok W W'):K4 W' gp go pa pn pc og od ns m :=
 ⟨fun k h4 q hq=>hk.cell (p:=⟨gp,k*6+q,none⟩) h.lp (h.pcell k h4 q hq),fun k h4 q hq=>hk.cell (p:=⟨go,k*6+q,none⟩) h.lo (h.ocell k h4 q hq),Nat.lt_of_lt_of_le h.lp hk.le,Nat.lt_of_lt_of_le h.lo hk.le,fun k h4=>(h.pg k h4).below hk,fun k h4=>(h.cr k h4).ok hk,h.up⟩
theorem K4.og {W:World} {gp go:Nat} {pa:Nat→Nat→Option Addr} {pn pc og od:Nat→Nat→Nat} {ns:Nat→List Nd} {m:Nat→Ls} (h:K4 W gp go pa pn pc og od ns m) (k:Nat) (hk:k<4):ProgIs W (.slice (some ⟨og k 0,0,none⟩) (nOf (ns k).length (m k) 0) (od k 0)) (.slice (some ⟨og k 1,0,none⟩) (nOf (ns k).length (m k) 1) (od k 1)) (.slice (some ⟨og k 2,0,none⟩) (nOf (ns k).length (m k) 2) (od k 2)) (.slice (some ⟨og k 3,0,none⟩) (nOf (ns k).length (m k) 3) (od k 3)) (.slice (some ⟨og k 4,0,none⟩) (nOf (ns k).length (m k) 4) (od k 4)) (.slice (some ⟨og k 5,0,none⟩) (nOf (ns k).length (m k) 5) (od k 5)) (ns k) (m k):=(h.cr k hk).pr.prog (h.pg k hk).ok
theorem K4.pr {W:World} {gp go:Nat} {pa:Nat→Nat→Option Addr} {pn pc og od:Nat→Nat→Nat} {ns:Nat→List Nd} {m:Nat→Ls} (h:K4 W gp go pa pn pc og od ns m) (k:Nat) (hk:k<4):ProgIs W (.slice (pa k 0) (pn k 0) (pc k 0)) (.slice (pa k 1) (pn k 1) (pc k 1)) (.slice (pa k 2) (pn k 2) (pc k 2)) (.slice (pa k 3) (pn k 3) (pc k 3)) (.slice (pa k 4) (pn k 4) (pc k 4)) (.slice (pa k 5) (pn k 5) (pc k 5)) (ns k) (m k):=(h.pg k hk).pr.prog (h.pg k hk).ok
end
section
open Go.RowKit
theorem ym2 {w:World} {B:Nat} {ev:Value} {es:List Ed} (h:w.ownsRow B 53 6 ev es.length (edL es)):SL w 6 ev es.length (edL es):=by
 obtain ⟨ao,cap,rfl⟩:=za0 h
 refine ⟨h.1,zq0 es,ao,cap,rfl,?_⟩
 by_cases c:es.length=0
 ·exact .inl c
 ·right
  obtain ⟨g,cp,e,_⟩:=h.form (by omega)
  injection e with e1 e2 e3
  subst e1
  exact ⟨g,0,rfl,(h.lt g rfl).2,fun j u hj=>by have:=h.cells (g:=g) rfl j u hj;rw [zc0] at this;exact this⟩
theorem Ok.six {w0 w:World} {g:Nat} (hk:Ok w0 w) (hg:w0.heap.size≤g) (b0 b1 b2 b3 b4 b5:Value):Ok w0 ((((((w.setCell ⟨g,0,none⟩ b0).setCell ⟨g,1,none⟩ b1).setCell ⟨g,2,none⟩ b2).setCell ⟨g,3,none⟩ b3).setCell ⟨g,4,none⟩ b4).setCell ⟨g,5,none⟩ b5):=(((((hk.set hg _).set hg _).set hg _).set hg _).set hg _).set hg _
set_option maxRecDepth 100000 in
set_option maxHeartbeats 4000000 in
theorem yl1 (v0 v1 v2 v3 v4 v5:Value) (ns:List Nd) (l:Ls) (w:World) (h:ProgIs w v0 v1 v2 v3 v4 v5 ns l) (hb:ns.length*56≤140737488351232∧l.sc.length*16≤140737488351232∧l.ar.length*24≤140737488351232∧l.sy.length*8≤140737488351232∧l.si.length*8≤140737488351232∧l.so.length*8≤140737488351232) :
  Calls Tryz.prog 11 #[.agg #[v0,v1,v2,v3,v4,v5]] w fun e w'=>∃ g d:Nat→Nat,e=.returned (.agg #[cpV ns l g d 0,cpV ns l g d 1,cpV ns l g d 2,cpV ns l g d 3,cpV ns l g d 4,cpV ns l g d 5])∧CpIs w' w.heap.size g d ns l∧Ok w w':=by
 have HP:=hid h
 have HB:=hid hb
 clear h hb
 go_enter Tryz.func11,Tryz.ntmps11
 go_wp2_with fail
 obtain ⟨w1,hw1⟩:∃ z,z=(w.alloc (Obj.cells #[v0,v1,v2,v3,v4,v5] 27)).alloc (Obj.cells #[Value.slice none 0 0,Value.slice none 0 0,Value.slice none 0 0,Value.slice none 0 0,Value.slice none 0 0,Value.slice none 0 0] 27):=⟨_,rfl⟩
 obtain ⟨gr,hgr⟩:∃ z,z=w.heap.size+1:=⟨_,rfl⟩
 rw [←hw1]
 have HK1:Hid (Ok w w1):=by unfold Hid;rw [hw1];exact ((Ok.refl w).alloc _).alloc _
 have HR1:Hid (Six w1 gr (.slice none 0 0) (.slice none 0 0) (.slice none 0 0) (.slice none 0 0) (.slice none 0 0) (.slice none 0 0)):=by unfold Hid;rw [hw1,hgr];exact ⟨zd0 _ _ _ (by simp)⟩
 have HGR:=hid hgr
 try rw [←hgr]
 clear hw1 hgr
 refine (zM3 v0 v1 v2 v3 v4 v5 ns l w1 (HP.out.below HK1.out) HB.out).mono ?_
 rintro e w' ⟨g,d,rfl,h1,h2⟩
 have HC:=hid h1
 have HK2:=hid (HK1.out.step h2)
 have HX:=hid (HR1.out.below h2)
 obtain ⟨lr,c0,c1,c2,c3,c4,c5⟩:=HX.out.pc
 have fr:=HX.out.warm
 clear h1 h2
 simp only [cpV]
 go_wp2_with fail
 try simp only [Exit.inBlock,Exit.then]
 refine bodyPost_ret (results_cell_row rfl _ _ gr 27 _ (0,0) _ rfl (zd4 HX.out.heap _ _ _ _ _ _) Tryz.underlying27 rfl Tryz.info27) rfl ?_
 refine ⟨g,d,rfl,⟨fun k hk=>?_,HC.out.up⟩,Ok.six HK2.out (by have:=HGR.out;omega) _ _ _ _ _ _⟩
 have hlt:gr<w1.heap.size+2:=by have:=HR1.out.lt;omega
 exact za7 (zj9 (HC.out.row k hk) hlt _ _ _ _ _ _) (by have:=HK1.out.le;omega)
end
section
set_option linter.unusedVariables false
set_option linter.unusedSimpArgs false
open Go.ChangeShapes Go.WideShapes Go.ChangeAt Go.RowKit
theorem own:ownKnob Tryz.prog.godebug=none:=by kernel_rfl
set_option maxRecDepth 100000 in
theorem yl8 (os:Os) (args:Array Value):laidMetH Tryz.prog Rows.cfgKeptRow.laid ((World.doorLaid Tryz.prog 4000 os).forCall (fun _ _=>0) ⟨#[],args,[]⟩).memory :=
 laidMetH_of_parts3 (fuel:=12) (laidMet_of_run' 12 (by kernel_rfl) (by kernel_rfl)) (by kernel_rfl) (by kernel_rfl)
section
variable {H:Type} {enc:TypeId×Value→H} {w:World} {base:Nat} {sp:Nat→Bool} {held:Bool}
theorem cellsA:Tryz.prog.cellsOf 157=1∧Tryz.prog.cellsOf 4=1∧Tryz.prog.cellsOf 2=1∧Tryz.prog.cellsOf 158=2∧Tryz.prog.cellsOf 159=3∧Tryz.prog.cellsOf 5=1∧Tryz.prog.cellsOf 161=9∧Tryz.prog.cellsOf 29=1:=by
 refine ⟨?_,?_,?_,?_,?_,?_,?_,?_⟩<;>kernel_rfl
theorem cellsB:Tryz.prog.cellsOf 75=2∧Tryz.prog.cellsOf 51=1:=by
 refine ⟨?_,?_⟩<;>kernel_rfl
set_option maxRecDepth 100000 in
theorem yi4 {fuel:Nat} {cs:List Value} {s:Bool} {l:Int} {p:List MemPlace} (h:DataW.trod enc Tryz.prog w base sp held fuel 75 cs=some (.agg [.lit (.bool s),.lit (.int .i64 l)],p)) :
  cs=[.bool s,.int .i64 l]:=by
 obtain ⟨xs,m,_,hx,hl,hlen,hf⟩:=DataW.trod_struct Tryz.underlying75 h
 rw [cellsB.1] at hl
 match xs,hlen,cs,hl with
 | [y0,y1],_,[c0,c1],_ =>
  have h0:DataW.trod enc Tryz.prog w base sp held m 4 (([c0,c1].drop 0).take (Tryz.prog.cellsOf 4))=some y0:=hf 0 _ rfl
  rw [cellsA.2.1,show ([c0,c1].drop 0).take 1=[c0] from rfl] at h0
  have h1:DataW.trod enc Tryz.prog w base sp held m 51 (([c0,c1].drop 1).take (Tryz.prog.cellsOf 51))=some y1:=hf 1 _ rfl
  rw [cellsB.2,show ([c0,c1].drop 1).take 1=[c1] from rfl] at h1
  obtain ⟨s',e0,r0⟩:=DataW.trod_bool Tryz.underlying4 h0
  obtain ⟨l',e1,r1,_⟩:=DataW.trod_int Tryz.underlying51 h1
  simp only [List.cons.injEq,and_true] at e0 e1
  subst e0 e1 r0 r1
  simp only [List.map_cons,List.map_nil,Prod.mk.injEq,DataW.agg.injEq,List.cons.injEq,DataW.lit.injEq,Lit.bool.injEq,Lit.int.injEq,and_true,true_and] at hx
  obtain ⟨⟨rfl,rfl⟩,_⟩:=hx
  rfl
set_option maxRecDepth 100000 in
theorem yi5 {fuel:Nat} {cs:List Value} {a0 a2 a3 a4 a5 a6 a7 a8:Int} {a1:Bool} {p:List MemPlace}
  (h:DataW.trod enc Tryz.prog w base sp held fuel 161 cs=some (.agg [.lit (.int .u8 a0),.lit (.bool a1),.lit (.int .i64 a2),.agg [.lit (.int .i64 a3),.lit (.int .i64 a4)],.agg [.lit (.int .u8 a5),.lit (.int .u8 a6),.lit (.int .u8 a7)],.lit (.int .u8 a8)],p)) :
  cs=[.int .u8 a0,.bool a1,.int .i64 a2,.int .i64 a3,.int .i64 a4,.int .u8 a5,.int .u8 a6,.int .u8 a7,.int .u8 a8]:=by
 obtain ⟨xs,m,_,hx,hl,hlen,hf⟩:=DataW.trod_struct Tryz.underlying161 h
 obtain ⟨c71,c4,c2,c72,c73,c5,c75,c29⟩:=cellsA
 rw [c75] at hl
 match xs,hlen,cs,hl with
 | [y0,y1,y2,y3,y4,y5],_,[k0,k1,k2,k3,k4,k5,k6,k7,k8],_ =>
  have h0:DataW.trod enc Tryz.prog w base sp held m 157 (([k0,k1,k2,k3,k4,k5,k6,k7,k8].drop 0).take (Tryz.prog.cellsOf 157))=some y0:=hf 0 _ rfl
  rw [c71,show ([k0,k1,k2,k3,k4,k5,k6,k7,k8].drop 0).take 1=[k0] from rfl] at h0
  have h1:DataW.trod enc Tryz.prog w base sp held m 4 (([k0,k1,k2,k3,k4,k5,k6,k7,k8].drop 1).take (Tryz.prog.cellsOf 4))=some y1:=hf 1 _ rfl
  rw [c4,show ([k0,k1,k2,k3,k4,k5,k6,k7,k8].drop 1).take 1=[k1] from rfl] at h1
  have h2:DataW.trod enc Tryz.prog w base sp held m 2 (([k0,k1,k2,k3,k4,k5,k6,k7,k8].drop 2).take (Tryz.prog.cellsOf 2))=some y2:=hf 2 _ rfl
  rw [c2,show ([k0,k1,k2,k3,k4,k5,k6,k7,k8].drop 2).take 1=[k2] from rfl] at h2
  have h3:DataW.trod enc Tryz.prog w base sp held m 158 (([k0,k1,k2,k3,k4,k5,k6,k7,k8].drop 3).take (Tryz.prog.cellsOf 158))=some y3:=hf 3 _ rfl
  rw [c72,show ([k0,k1,k2,k3,k4,k5,k6,k7,k8].drop 3).take 2=[k3,k4] from rfl] at h3
  have h4:DataW.trod enc Tryz.prog w base sp held m 159 (([k0,k1,k2,k3,k4,k5,k6,k7,k8].drop 5).take (Tryz.prog.cellsOf 159))=some y4:=hf 4 _ rfl
  rw [c73,show ([k0,k1,k2,k3,k4,k5,k6,k7,k8].drop 5).take 3=[k5,k6,k7] from rfl] at h4
  have h5:DataW.trod enc Tryz.prog w base sp held m 5 (([k0,k1,k2,k3,k4,k5,k6,k7,k8].drop 8).take (Tryz.prog.cellsOf 5))=some y5:=hf 5 _ rfl
  rw [c5,show ([k0,k1,k2,k3,k4,k5,k6,k7,k8].drop 8).take 1=[k8] from rfl] at h5
  obtain ⟨z0,e0,r0,_⟩:=DataW.trod_int Tryz.underlying157 h0
  obtain ⟨z1,e1,r1⟩:=DataW.trod_bool Tryz.underlying4 h1
  obtain ⟨z2,e2,r2,_⟩:=DataW.trod_int Tryz.underlying2 h2
  obtain ⟨z8,e8,r8,_⟩:=DataW.trod_int Tryz.underlying5 h5
  simp only [List.map_cons,List.map_nil,Prod.mk.injEq,DataW.agg.injEq,List.cons.injEq,and_true] at hx
  obtain ⟨⟨hx0,hx1,hx2,hx3,hx4,hx5⟩,_⟩:=hx
  have g3:[k3,k4]=[a3,a4].map fun z=>Value.int .i64 z:=Lib.cells_of_tab (p:=y3.2) Tryz.underlying158 Tryz.underlying29 c29 c72 (by rw [h3,show Lib.tabData .i64 [a3,a4]=y3.1 from hx3])
  have g4:[k5,k6,k7]=[a5,a6,a7].map fun z=>Value.int .u8 z:=Lib.cells_of_tab (p:=y4.2) Tryz.underlying159 Tryz.underlying157 c71 c73 (by rw [h4,show Lib.tabData .u8 [a5,a6,a7]=y4.1 from hx4])
  simp only [List.map_cons,List.map_nil,List.cons.injEq,and_true] at g3 g4 e0 e1 e2 e8
  obtain ⟨rfl,rfl⟩:=g3
  obtain ⟨rfl,rfl,rfl⟩:=g4
  subst e0 e1 e2 e8 r0 r1 r2 r8
  simp only [DataW.lit.injEq,Lit.int.injEq,Lit.bool.injEq,true_and] at hx0 hx1 hx2 hx5
  subst hx0 hx1 hx2 hx5
  rfl
end
def stepData {H:Type}:DataW H:=.agg ((List.range 16).map fun k=>.agg [.lit (.bool (decide (2≤k)&&decide (k≤8))),.lit (.int .i64 (opT.getD k 0))])
def ruleData {H:Type}:DataW H:=.agg ((List.range 16).map fun k=>.agg [.lit (.int .u8 (rSort k)),.lit (.bool (rNamed k)),.lit (.int .i64 (rMost k)),.agg [.lit (.int .i64 (rOp0 k)),.lit (.int .i64 (rOp1 k))],.agg [.lit (.int .u8 (rH0 k)),.lit (.int .u8 (rH1 k)),.lit (.int .u8 (rH2 k))],.lit (.int .u8 (rWant k))])
theorem zF6:Rows.laid_winnow_cfg_steps (H:=Unit)=stepData:=rfl
theorem zF7:Rows.laid_winnow_parse_rules (H:=Unit)=ruleData:=rfl
theorem zI9 {P:Program} {W:World} {name:String} {ds:List (DataW Unit)} {rest:List (String×DataW Unit)} {g:Nat} {t e:TypeId} {n c:Nat}
  (hg:P.globalNamed name=some g) (hty:(P.globals[g]?).map (·.type)=some t) (ht:P.underlying t=some (.array n e)) (hce:P.cellsOf e=c)
  (h:laidMet P ((name,.agg ds)::rest) W):∃ (cs:Array Value) (enc:TypeId×Value→Unit) (base:Nat) (sp:Nat→Bool) (held:Bool) (m:Nat),W.var? P name=some cs∧ds.length=n ∧
   ∀ i d,ds[i]?=some d→∃ p,DataW.trod enc P W base sp held m e ((cs.toList.drop (i*c)).take c)=some (d,p):=by
 obtain ⟨ps,⟨g',t',cs,fuel,p,q,hg',ht',hvar,hd,_,_⟩,_⟩:=h
 obtain rfl:=Option.some.inj (hg.symm.trans hg')
 obtain rfl:=Option.some.inj (hty.symm.trans ht')
 obtain ⟨xs,m,_,hx,_,hlen,hel⟩:=DataW.trod_array ht hd
 have hds:ds=xs.map (·.1):=by
  have:=congrArg Prod.fst hx
  simpa using this
 refine ⟨cs,fun _=>(),0,fun _=>true,false,m,hvar,by rw [hds];simpa using hlen,?_⟩
 intro i d hi
 have hi':i<xs.length:=by
  have:=(List.getElem?_eq_some_iff.1 hi).1
  rw [hds] at this
  simpa using this
 have h9:=hel i (by omega)
 rw [hce] at h9
 refine ⟨xs[i].2,?_⟩
 rw [h9,List.getElem?_eq_getElem hi']
 rw [hds,List.getElem?_map,List.getElem?_eq_getElem hi'] at hi
 have:xs[i].1=d:=by simpa using hi
 rw [←this]
theorem zf3 {cs:List Value} {i c j:Nat} {l:List Value} {v:Value} (h:(cs.drop (i*c)).take c=l) (hj:l[j]?=some v):cs[i*c+j]?=some v:=by
 rw [←h,List.getElem?_take] at hj
 split at hj
 ·rw [List.getElem?_drop] at hj;exact hj
 ·cases hj
theorem zX0 {W:World} {b o:Nat} {v:Value} (h:W.cell? ⟨b,o,none⟩=some v):b<W.heap.size:=by
 rcases Nat.lt_or_ge b W.heap.size with hh | hh
 ·exact hh
 ·simp [World.cell?,Array.getElem?_eq_none hh] at h
theorem zy4 {W:World} {rest:List (String×DataW Unit)} (h:laidMet Tryz.prog (("winnow/cfg.steps",Rows.laid_winnow_cfg_steps)::rest) W):StepsIs W:=by
 rw [zF6] at h
 have hg:Tryz.prog.globalNamed "winnow/cfg.steps" = some 0:=by kernel_rfl
 obtain ⟨cs,enc,base,sp,held,m,hvar,_,hel⟩:=zI9 (g:=0) (t:=76) hg (by kernel_rfl) Tryz.underlying76 cellsB.1 h
 have key:∀ k,k<16→(cs.toList.drop (k*2)).take 2=[.bool (decide (2≤k)&&decide (k≤8)),.int .i64 (opT.getD k 0)]:=by
  intro k hk
  obtain ⟨p,hp⟩:=hel k _ (by rw [List.getElem?_map,List.getElem?_range hk];rfl)
  exact yi4 hp
 have cell:∀ (j:Nat) (v:Value),cs.toList[j]?=some v→W.cell? ⟨0,j,none⟩=some v:=by
  intro j v hv
  rw [World.var?_cell hg hvar j,←Array.getElem?_toList]
  exact hv
 exact ⟨zX0 (cell _ _ (zf3 (j:=0) (key 0 (by decide)) rfl)),fun k hk=>cell _ _ (zf3 (j:=0) (key k hk) rfl),fun k hk=>cell _ _ (zf3 (j:=1) (key k hk) rfl)⟩
theorem zy5 {W:World} {rest:List (String×DataW Unit)} (h:laidMet Tryz.prog (("winnow/parse.rules",Rows.laid_winnow_parse_rules)::rest) W):RulesIs W:=by
 rw [zF7] at h
 have hg:Tryz.prog.globalNamed "winnow/parse.rules" = some 2:=by kernel_rfl
 obtain ⟨cs,enc,base,sp,held,m,hvar,_,hel⟩:=zI9 (g:=2) (t:=162) hg (by kernel_rfl) Tryz.underlying162 cellsA.2.2.2.2.2.2.1 h
 have key:∀ k,k<16→(cs.toList.drop (k*9)).take 9=[.int .u8 (rSort k),.bool (rNamed k),.int .i64 (rMost k),.int .i64 (rOp0 k),.int .i64 (rOp1 k),.int .u8 (rH0 k),.int .u8 (rH1 k),.int .u8 (rH2 k),.int .u8 (rWant k)]:=by
  intro k hk
  obtain ⟨p,hp⟩:=hel k _ (by rw [List.getElem?_map,List.getElem?_range hk];rfl)
  exact yi5 hp
 have cell:∀ (j:Nat) (v:Value),cs.toList[j]?=some v→W.cell? ⟨2,j,none⟩=some v:=by
  intro j v hv
  rw [World.var?_cell hg hvar j,←Array.getElem?_toList]
  exact hv
 exact ⟨zX0 (cell _ _ (zf3 (j:=0) (key 0 (by decide)) rfl)),fun k hk=>cell _ _ (zf3 (j:=0) (key k hk) rfl),fun k hk=>cell _ _ (zf3 (j:=1) (key k hk) rfl),fun k hk=>cell _ _ (zf3 (j:=2) (key k hk) rfl),fun k hk=>cell _ _ (zf3 (j:=3) (key k hk) rfl),
  fun k hk=>cell _ _ (zf3 (j:=4) (key k hk) rfl),fun k hk=>cell _ _ (zf3 (j:=5) (key k hk) rfl),fun k hk=>cell _ _ (zf3 (j:=6) (key k hk) rfl),fun k hk=>cell _ _ (zf3 (j:=7) (key k hk) rfl),fun k hk=>cell _ _ (zf3 (j:=8) (key k hk) rfl)⟩
theorem ye5 {W:World} (h:laidMetH Tryz.prog Rows.cfgKeptRow.laid W):RulesIs W∧StepsIs W:=by
 rw [MakeChecks.laidMetH_plain _ _ _ (by kernel_rfl)] at h
 have h1:laidMet Tryz.prog [("winnow/parse.rules",Rows.laid_winnow_parse_rules),("winnow/cfg.steps",Rows.laid_winnow_cfg_steps)] W:=laidMet.tail (laidMet.tail (laidMet.tail (laidMet.tail h)))
 exact ⟨zy5 h1,zy4 (laidMet.tail h1)⟩
end
section
open Go.RowKit
theorem zh4 {α:Type} {f:α→α→Bool} (hf:∀ a b,f a b=f b a):∀ (l m:List α),likeB f l m=likeB f m l
 | [],[]=>rfl
 | [],_::_=>rfl
 | _::_,[]=>rfl
 | a::l,b::m=>by simp only [likeB];rw [hf a b,zh4 hf l m]
theorem zF8 (l m:Ls):sameLs l m=sameLs m l:=by
 unfold sameLs
 rw [zh4 (f:=eqSt) (fun a b=>by unfold eqSt;exact BEq.comm),zh4 (f:=eqAr) (fun a b=>by unfold eqAr;rw [BEq.comm (a:=a.1.toList),BEq.comm (a:=a.2)]),zh4 (f:=eqIn) (fun a b=>by unfold eqIn;exact BEq.comm) l.sy,zh4 (f:=eqIn) (fun a b=>by unfold eqIn;exact BEq.comm) l.si,zh4 (f:=eqIn) (fun a b=>by unfold eqIn;exact BEq.comm) l.so]
theorem yl2 {ns:List Nd} {l:Ls} (h:goodD ns l=true):sameLs (lsOf (readD ns rd0).2.2) l=true:=by
 unfold goodD at h
 rw [Bool.and_eq_true] at h
 rw [zF8];exact h.2
theorem yl3 (w:World):ProgIs w (.slice none 0 0) (.slice none 0 0) (.slice none 0 0) (.slice none 0 0) (.slice none 0 0) (.slice none 0 0) [] ⟨[],[],[],[],[]⟩:=by
 have h:PrIs w 0 (fun _=>.slice none 0 0) [] ⟨[],[],[],[],[]⟩:=fun k hk=>by
  rcases (show k=0∨k=1∨k=2∨k=3∨k=4∨k=5 by omega) with rfl | rfl | rfl | rfl | rfl | rfl<;>exact World.ownsRow_nil _ _ _ _
 exact h.prog (fun n hn=>by cases hn)
theorem ym0 (w:World):SL w 6 (.slice none 0 0) ([]:List Ed).length (edL []):=⟨rfl,by simp [edL],Option.none,0,rfl,.inl rfl⟩
end
section
open Go.RowKit
theorem x1_hi (z:Int):x1 z≤9223372036854775807:=by
 unfold x1 bits
 simp only
 generalize (((BitVec.ofInt _ z ^^^ BitVec.ofInt _ 1).toNat:Nat):Int)=y
 rw [IntKind.wrap_i64]
 omega
theorem zX1 {r:Rd} {i:Nat} {n:Nd} (hr:∀ s∈r.sc,s.size≤maxLen) (hn:n.Ok):∀ s∈(putD r i n).2.sc,s.size≤maxLen:=by
 have key:∀ s∈(symbolD r.sc r.ar n).2.2.1,s.size≤maxLen:=by
  intro s hs
  unfold symbolD declD at hs
  have two:s∈r.sc++[n.name]→s.size≤maxLen:=fun hh=>by
   rcases List.mem_append.1 hh with h | h
   ·exact hr s h
   ·rw [List.mem_singleton.1 h];exact hn.name
  repeat' split at hs
  all_goals first
   | exact hr s hs
   | exact two hs
 intro s hs
 unfold putD at hs
 simp only at hs
 repeat' split at hs
 all_goals first
  | exact hr s hs
  | exact key s hs
theorem zu8:∀ (ns:List Nd) (r:Rd),(∀ n∈ns,n.Ok)→(∀ s∈r.sc,s.size≤maxLen)→∀ s∈(readFrom ns r).2.2.sc,s.size≤maxLen
 | [],r,_,hr=>hr
 | n::t,r,hn,hr=>by
  intro s hs
  unfold readFrom at hs
  split at hs
  ·exact zu8 t _ (fun n hh=>hn n (List.mem_cons_of_mem _ hh)) (zX1 hr (hn n List.mem_cons_self)) s hs
  ·exact hr s hs
theorem PG.names {w:World} {u:Nat→Value} {ns:List Nd} {m:Ls} (h:PG w u ns m):∀ s∈m.sc,s.size≤maxLen:=by
 rw [h.rd.2]
 have e:readD ns rd0=readFrom ns rd0:=by
  have:=h.rd.1
  unfold readD at this ⊢
  split
  ·rfl
  ·rename_i c;rw [if_neg c] at this;exact absurd this c
 show ∀ s∈(readD ns rd0).2.2.sc,_
 rw [e]
 exact zu8 ns rd0 h.ok (fun s hs=>by cases hs)
theorem yl4 {sc:List ByteArray} {n:Nd} (hn:n.Ok) (hs:∀ s∈sc,s.size≤maxLen):(tnN x1 sc n).Ok:=by
 unfold tnN
 repeat' split
 all_goals first
  | exact hn
  | exact ⟨hn.name,hn.lo,hn.hi,x1_hi _⟩
  | exact ⟨hn.name,hn.lo,hn.hi,hn.num⟩
  | exact ⟨Nat.zero_le _,hn.lo,hn.hi,hn.num⟩
  | exact ⟨hs _ List.mem_cons_self,hn.lo,hn.hi,hn.num⟩
theorem yl5 {sc:List ByteArray} {ns:List Nd} {i:Nat} (hn:∀ n∈ns,n.Ok) (hs:∀ s∈sc,s.size≤maxLen):∀ n∈tnL x1 sc ns i,n.Ok:=by
 intro n h
 unfold tnL at h
 rcases List.mem_append.1 h with h | h
 ·obtain ⟨k,hk,rfl⟩:=List.mem_map.1 h
  exact yl4 (hn k (List.mem_of_mem_take hk)) hs
 ·exact hn n (List.mem_of_mem_drop h)
theorem yi6 {sc:List ByteArray} {ns:List Nd} {i:Nat}:(tnL x1 sc ns i).length=ns.length:=by
 unfold tnL
 rw [List.length_append,List.length_map,List.length_take,List.length_drop]
 omega
theorem yi7 {sc:List ByteArray} {ns:List Nd} {sy:List Int} {i:Nat} (h:sy.length=ns.length):(tnS sc ns sy i).length=sy.length:=by
 unfold tnS
 rw [List.length_append,List.length_zipWith,List.length_take,List.length_take,List.length_drop]
 omega
def tnM (ns:List Nd) (m:Ls):Ls:={ m with sy:=tnS m.sc ns m.sy ns.length }
theorem zu9 {ns:List Nd} {m:Ls} (h:m.sy.length=ns.length) (g d:Nat→Nat) (k:Nat):cpV (tnL x1 m.sc ns ns.length) (tnM ns m) g d k=cpV ns m g d k:=by
 unfold cpV
 have e:nOf (tnL x1 m.sc ns ns.length).length (tnM ns m) k=nOf ns.length m k:=by
  rw [yi6]
  unfold nOf tnM
  simp only [yi7 h]
 rw [e]
theorem TUI.prog {w wr:World} {B:Nat} {g d:Nat→Nat} {ns:List Nd} {m:Ls} (h:TUI w wr B g d ns m ns.length) (hsy:m.sy.length=ns.length) (hn:∀ n∈ns,n.Ok) (hs:∀ s∈m.sc,s.size≤maxLen) :
  ProgIs wr (cpV ns m g d 0) (cpV ns m g d 1) (cpV ns m g d 2) (cpV ns m g d 3) (cpV ns m g d 4) (cpV ns m g d 5) (tnL x1 m.sc ns ns.length) (tnM ns m):=by
 have h1:PrIs wr B (cpV (tnL x1 m.sc ns ns.length) (tnM ns m) g d) (tnL x1 m.sc ns ns.length) (tnM ns m):=CRows.pr h.row
 have h2:=h1.prog (yl5 hn hs)
 rw [zu9 hsy,zu9 hsy,zu9 hsy,zu9 hsy,zu9 hsy,zu9 hsy] at h2
 exact h2
theorem yj0 {ns:List Nd} {m:Ls} (h:goodD ns m=true):(elF ns).length≤1000000:=by
 have h0:=zn4 h
 have h1:=zW2 (zs8 (zj2 h0))
 have h2:=zn3 ns ns.length
 have h3:=(zg4 ns h0).2
 omega
theorem KG.forms {w:World} {B k:Nat} {U:Nat→Nat→Value} {ns:Nat→List Nd} {m:Nat→Ls} (h:KG w B k U ns m):∃ (a:Nat→Nat→Option Addr) (c:Nat→Nat→Nat),∀ i,i<k→∀ j,j<7→U i j=slG a (lnK ns m) c i j:=by
 have hf:∀ i j,∃ (ao:Option Addr) (cap:Nat),i<k→j<7→U i j=.slice ao (lnK ns m i j) cap:=fun i j=>by
  by_cases hi:i<k
  ·by_cases hj:j<7
   ·obtain ⟨ao,cap,e⟩:=za0 (h.rows i hi j hj);exact ⟨ao,cap,fun _ _=>e⟩
   ·exact ⟨none,0,fun _ h=>absurd h hj⟩
  ·exact ⟨none,0,fun h=>absurd h hi⟩
 exact ⟨fun i j=>(hf i j).choose,fun i j=>(hf i j).choose_spec.choose,fun i hi j hj=>(hf i j).choose_spec.choose_spec hi hj⟩
structure GF (w:World) (B mg:Nat) (a:Nat→Nat→Option Addr) (n c:Nat→Nat→Nat) (X Y:Nat→Int) (ns:Nat→List Nd) (m:Nat→Ls):Prop where
 rows:RowsY a n c w B (xK ns m)
 ds:Dist a n c
 cs:∀ k,k<4→∀ q,q<9→w.cell? ⟨mg,k*9+q,none⟩=some (gcV a n c X Y k q)
 lt:mg<w.heap.size
 ne:∀ k,k<4→∀ j,j<7→∀ b,(slG a n c k j).ownBlock=some b→b≠mg
 pr:∀ k,k<4→PrIs w 0 (slG a n c k) (ns k) (m k)
 ed:∀ k,k<4→w.ownsRow 0 53 6 (slG a n c k 6) (elF (ns k)).length (edL (elF (ns k)))
 ln:n=lnK ns m
theorem KG.fit {w:World} {B mg mc:Nat} {U:Nat→Nat→Value} {X Y:Nat→Int} {ns:Nat→List Nd} {m:Nat→Ls} (h:KG w B 4 U ns m) (hm:w.ownsRow B 42 9 (.slice (some ⟨mg,0,none⟩) 4 mc) 4 (moL U X Y 4)):∃ a n c,GF w B mg a n c X Y ns m:=by
 obtain ⟨a,c,hu⟩:=h.forms
 have hlt:=(hm.lt mg rfl).2
 obtain ⟨cg,fg,kg⟩:=zm0 hm mg rfl
 have rows:RowsY a (lnK ns m) c w B (xK ns m):=fun k hk j hj=>by rw [←hu k hk j hj];exact h.rows k hk j hj
 refine ⟨a,lnK ns m,c,rows,?_,?_,hlt,?_,?_,?_,rfl⟩
 ·intro k j k' j' hk hj hk' hj' hne b
  rw [←hu k hk j hj,←hu k' hk' j' hj']
  exact h.ds k j k' j' hk hj hk' hj' hne b
 ·intro k hk q hq
  have h1:∀ v,(nineU (U k) (X k) (Y k)).toList[q]?=some v→w.cell? ⟨mg,k*9+q,none⟩=some v:=fun v hv=>by
   have:=hm.cells (g:=mg) rfl _ _ (zF5 U X Y 4 k q v hk hq hv)
   rw [zc0,Nat.zero_add] at this
   exact this
  refine h1 _ ?_
  obtain rfl | rfl | rfl | rfl | rfl | rfl | rfl | rfl | rfl:q=0∨q=1∨q=2∨q=3∨q=4∨q=5∨q=6∨q=7∨q=8:=by omega
  all_goals first
   | exact congrArg some (hu k hk 0 (by decide))
   | exact congrArg some (hu k hk 1 (by decide))
   | exact congrArg some (hu k hk 2 (by decide))
   | exact congrArg some (hu k hk 3 (by decide))
   | exact congrArg some (hu k hk 4 (by decide))
   | exact congrArg some (hu k hk 5 (by decide))
   | exact congrArg some (hu k hk 6 (by decide))
   | rfl
 ·intro k hk j hj b hb e
  subst e
  obtain ⟨c1,f1,k1⟩:=zm0 (rows k hk j hj) b hb
  rw [k1] at kg
  injection kg with kg
  injection kg with _ k3
  exact zI4 j hj k3
 ·intro k hk j hj
  have:=za7 (rows k hk j (by omega)) (Nat.zero_le B)
  have e:TY7 j=TY j∧SZ7 j=SZ j∧lnK ns m k j=nOf (ns k).length (m k) j∧xK ns m k j=xOf (ns k) (ns k).length (m k) j:=by
   unfold TY7 SZ7 lnK xK
   simp only [if_neg (show ¬j=6 by omega),and_self]
  rw [e.1,e.2.1,e.2.2.1,e.2.2.2] at this
  exact this
 ·intro k hk
  exact za7 (rows k hk 6 (by decide)) (Nat.zero_le B)
theorem GF.ok {w w':World} {B mg:Nat} {a:Nat→Nat→Option Addr} {n c:Nat→Nat→Nat} {X Y:Nat→Int} {ns:Nat→List Nd} {m:Nat→Ls} (h:GF w B mg a n c X Y ns m) (hk:Ok w w'):GF w' B mg a n c X Y ns m :=
 ⟨fun k h4 j hj=>za1 (h.rows k h4 j hj) hk,h.ds,fun k h4 q hq=>hk.cell (p:=⟨mg,k*9+q,none⟩) h.lt (h.cs k h4 q hq),Nat.lt_of_lt_of_le h.lt hk.le,h.ne,fun k h4 j hj=>za1 (h.pr k h4 j hj) hk,fun k h4=>za1 (h.ed k h4) hk,h.ln⟩
theorem GF.n_le {w W:World} {B mg:Nat} {a:Nat→Nat→Option Addr} {n c:Nat→Nat→Nat} {X Y:Nat→Int} {ns:Nat→List Nd} {m:Nat→Ls} (h:GF w B mg a n c X Y ns m) {u:Nat→Nat→Value} (hp:∀ k,k<4→PG W (u k) (ns k) (m k)):∀ k,k<4→∀ j,j<7→n k j≤99980:=by
 intro k hk j hj
 rw [h.ln]
 have h1:=(hp k hk).lens
 have h2:=(hp k hk).edges
 unfold lnK nOf
 repeat' split
 all_goals omega
end
section
theorem wroot:True:=trivial
end
end Go.Proofs.YtgobgdljckamkaaGreatDoor
