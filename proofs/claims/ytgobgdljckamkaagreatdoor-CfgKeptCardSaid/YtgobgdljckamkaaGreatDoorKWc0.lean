import Derived.Test.YtgobgdljckamkaaGreatDoorKTj
set_option linter.unusedVariables false
set_option linter.unusedSimpArgs false
set_option linter.unnecessarySimpa false
namespace Go.Proofs.YtgobgdljckamkaaGreatDoor
section
open Go.RowKit
def edM (k:Nat):Ed:=⟨-1-(k:Int),0,0,0,false,false⟩
def ndM (k:Nat):Nd:=⟨-1-(k:Int),0,⟨#[]⟩,0,0,0⟩
def nmM (k:Nat):ByteArray:=⟨#[109,97,114,107,32,48+k.toUInt8]⟩
def wdM (k j:Nat):List Value:=if j=0 then ndV (ndM k) else if j=1 then [.string (nmM k)] else if j=2 then [.string ⟨#[]⟩,.int .i64 (-1-(k:Int))] else if j=6 then edV (edM k) else [.int .i64 (2-3*(k:Int)-(j:Int))]
theorem zM7:(Tryz.prog.info? 53).map (·.size)=some 6:=by kernel_rfl
theorem zM8:(Tryz.prog.info? 31).map (·.size)=some 6:=by kernel_rfl
theorem zF1:(Tryz.prog.info? 56).map (·.size)=some 2:=by kernel_rfl
theorem four {P:Nat→Prop} (h0:P 0) (h1:P 1) (h2:P 2) (h3:P 3):∀ k,k<4→P k:=by
 intro k hk
 rcases (show k=0∨k=1∨k=2∨k=3 by omega) with rfl | rfl | rfl | rfl
 ·exact h0
 ·exact h1
 ·exact h2
 ·exact h3
set_option maxRecDepth 100000 in
theorem zp0 (k:Nat) (hk:k<4) (w:World):Calls Tryz.prog 46 #[.int .i64 (k:Nat)] w fun e w'=>e=.returned (.agg #[.int .i64 (-1-(k:Int)),.int .i64 0,.int .i64 0,.int .i64 0,.bool false,.bool false])∧Ok w w':=by
 have hw:wrap64 (-1-(k:Int)) = -1-(k:Int):=by unfold wrap64;omega
 clear hk
 go_enter Tryz.func46,Tryz.ntmps46
 go_wp2_with fail
 refine bodyPost_ret (results_cell_row rfl _ _ w.heap.size 53 _ (0,0) _ rfl (za6 _ _) Tryz.underlying53 rfl zM7) rfl ?_
 exact ⟨rfl,(Ok.refl _).alloc _⟩
set_option maxRecDepth 100000 in
theorem zp1 (k:Nat) (hk:k<4) (w:World):Calls Tryz.prog 47 #[.int .i64 (k:Nat)] w fun e w'=>e=.returned (.agg #[.int .i64 (-1-(k:Int)),.int .i64 0,.string ⟨#[]⟩,.int .i64 0,.int .i64 0,.int .i64 0])∧Ok w w':=by
 have hw:wrap64 (-1-(k:Int)) = -1-(k:Int):=by unfold wrap64;omega
 clear hk
 go_enter Tryz.func47,Tryz.ntmps47
 go_wp2_with fail
 refine bodyPost_ret (results_cell_row rfl _ _ w.heap.size 31 _ (0,0) _ rfl (za6 _ _) Tryz.underlying31 rfl zM8) rfl ?_
 exact ⟨rfl,(Ok.refl _).alloc _⟩
set_option maxRecDepth 100000 in
theorem zm5 (k:Nat) (hk:k<4) (w:World):Calls Tryz.prog 49 #[.int .i64 (k:Nat)] w fun e w'=>e=.returned (.agg #[.string ⟨#[]⟩,.int .i64 (-1-(k:Int))])∧Ok w w':=by
 have hw:wrap64 (-1-(k:Int)) = -1-(k:Int):=by unfold wrap64;omega
 clear hk
 go_enter Tryz.func49,Tryz.ntmps49
 go_wp2_with fail
 refine bodyPost_ret (results_cell_row rfl _ _ w.heap.size 56 _ (0,0) _ rfl (za6 _ _) Tryz.underlying56 rfl zF1) rfl ?_
 exact ⟨rfl,(Ok.refl _).alloc _⟩
def dgM (k:Nat):ByteArray:=⟨#[48+k.toUInt8]⟩
set_option maxRecDepth 100000 in
set_option maxHeartbeats 2000000 in
theorem zM9:∀ (k:Nat),k<4→∀ (w:World),Calls Tryz.prog 132 #[.int .i64 (k:Nat)] w fun e w'=>e=.returned (.string (dgM k))∧Ok w w':=by
 refine four ?_ ?_ ?_ ?_
 all_goals
  intro w
  go_enter Tryz.func132,Tryz.ntmps132
  go_wp2_with fail
  go_ret
  exact ⟨by kernel_rfl,Ok.refl _⟩
set_option maxRecDepth 100000 in
set_option maxHeartbeats 2000000 in
theorem yi0 (k:Nat) (hk:k<4) (w:World):Calls Tryz.prog 119 #[.int .i64 (k:Nat),.int .i64 10] w fun e w'=>e=.returned (.string (dgM k))∧Ok w w':=by
 have h1:(0:Int)≤(k:Int):=by omega
 have h2:(k:Int)<100:=by omega
 have h3:wrap64 (k:Int)=(k:Int):=by unfold wrap64;omega
 have HK:=hid hk
 clear hk
 go_enter Tryz.func119,Tryz.ntmps119
 go_wp2_with fail
 refine (zM9 k HK.out w).mono ?_
 rintro e w1 ⟨rfl,hk1⟩
 have HK1:Hid (Ok w w1):=hk1
 clear hk1
 go_wp2_with fail
 go_ret
 exact ⟨rfl,HK1.out⟩
set_option maxRecDepth 100000 in
theorem yd1 (k:Nat) (hk:k<4) (w:World):Calls Tryz.prog 99 #[.int .i64 (k:Nat)] w fun e w'=>e=.returned (.string (dgM k))∧Ok w w':=by
 have h3:wrap64 (k:Int)=(k:Int):=by unfold wrap64;omega
 have HK:=hid hk
 clear hk
 go_enter Tryz.func99,Tryz.ntmps99
 go_wp2_with fail
 refine (yi0 k HK.out w).mono ?_
 rintro e w1 ⟨rfl,hk1⟩
 have HK1:Hid (Ok w w1):=hk1
 clear hk1
 go_wp2_with fail
 go_ret
 exact ⟨rfl,HK1.out⟩
set_option maxRecDepth 100000 in
theorem yd2 (k:Nat) (hk:k<4) (w:World):Calls Tryz.prog 72 #[.int .i64 (k:Nat)] w fun e w'=>e=.returned (.string (dgM k))∧Ok w w':=by
 go_enter Tryz.func72,Tryz.ntmps72
 go_wp2_with fail
 refine (yd1 k hk w).mono ?_
 rintro e w1 ⟨rfl,hk1⟩
 have HK1:Hid (Ok w w1):=hk1
 clear hk1 hk
 go_wp2_with fail
 go_ret
 exact ⟨rfl,HK1.out⟩
set_option maxRecDepth 100000 in
theorem zp2 (k:Nat) (hk:k<4) (w:World):Calls Tryz.prog 48 #[.int .i64 (k:Nat)] w fun e w'=>e=.returned (.string (nmM k))∧Ok w w':=by
 go_enter Tryz.func48,Tryz.ntmps48
 go_wp2_with fail
 refine (yd2 k hk w).mono ?_
 rintro e w1 ⟨rfl,hk1⟩
 have HK1:Hid (Ok w w1):=hk1
 have hsz:(dgM k).size=1:=rfl
 clear hk1 hk
 go_wp2_with fail
 go_ret
 exact ⟨rfl,HK1.out⟩
end
section
open Go.RowKit
structure MkS (w:World) (k:Nat) (a:Nat→Option Addr) (n:Nat→Nat):Prop where
 le:∀ j,j<7→n j≤100000
 at':∀ j,j<7→∀ i,i<n j→∃ b o,a j=some ⟨b,o,none⟩∧b<w.heap.size∧∀ t u,(wdM k j)[t]?=some u→w.cell? ⟨b,o+i*(wdM k j).length+t,none⟩=some u
theorem MkS.below {w w':World} {k:Nat} {a:Nat→Option Addr} {n:Nat→Nat} (h:MkS w k a n) (hb:Ok w w'):MkS w' k a n :=
 ⟨h.le,fun j hj i hi=>by
  obtain ⟨b,o,e,hl,hc⟩:=h.at' j hj i hi
  exact ⟨b,o,e,Nat.lt_of_lt_of_le hl hb.le,fun t u ht=>(Below.cell (show Below w.heap.size w w' from hb) (p:=⟨b,_,none⟩) hl).trans (hc t u ht)⟩⟩
set_option maxRecDepth 100000 in
theorem zH9 (a0 a1 a2 a3 a4 a5 a6:Option Addr) (n0 n1 n2 n3 n4 n5 n6 c0 c1 c2 c3 c4 c5 c6:Nat) (gx gy:Int) (w:World) :
  Calls Tryz.prog 50 #[.agg #[Value.slice a0 n0 c0,Value.slice a1 n1 c1,Value.slice a2 n2 c2,Value.slice a3 n3 c3,Value.slice a4 n4 c4,Value.slice a5 n5 c5,Value.int .i64 gx,Value.int .i64 gy,Value.slice a6 n6 c6]] w fun e w'=>∃ r,e=.returned (.slice (some ⟨r,0,none⟩) 3 3)∧w.heap.size≤r∧w'.heap[r]?=some (.cells #[.slice a3 n3 c3,.slice a4 n4 c4,.slice a5 n5 c5] 25 (0,0))∧Ok w w':=by
 go_enter Tryz.func50,Tryz.ntmps50
 go_wp2_with fail
 go_ret
 exact ⟨_,rfl,by simp,zd0 _ _ _ (by simp),((Ok.refl w).alloc _).alloc _⟩
theorem eqNodeM (k:Nat) (w:World):(Op.equalIn 10000 31 (.agg #[.int .i64 (-1-(k:Int)),.int .i64 0,.string ⟨#[]⟩,.int .i64 0,.int .i64 0,.int .i64 0]) (.agg #[.int .i64 (-1-(k:Int)),.int .i64 0,.string ⟨#[]⟩,.int .i64 0,.int .i64 0,.int .i64 0])).run Tryz.prog w=.ok true w:=eqNode (ndM k) w
theorem eqArM (k:Nat) (w:World):(Op.equalIn 10000 56 (.agg #[.string ⟨#[]⟩,.int .i64 (-1-(k:Int))]) (.agg #[.string ⟨#[]⟩,.int .i64 (-1-(k:Int))])).run Tryz.prog w=.ok true w:=by rw [eq76];simp
theorem eqEdM (k:Nat) (w:World):(Op.equalIn 10000 53 (.agg #[.int .i64 (-1-(k:Int)),.int .i64 0,.int .i64 0,.int .i64 0,.bool false,.bool false]) (.agg #[.int .i64 (-1-(k:Int)),.int .i64 0,.int .i64 0,.int .i64 0,.bool false,.bool false])).run Tryz.prog w=.ok true w:=eqEdge (edM k) w
set_option maxRecDepth 100000 in
set_option maxHeartbeats 8000000 in
theorem zu4 (k:Nat) (hk:k<4) (a:Nat→Option Addr) (n c:Nat→Nat) (gx gy:Int) (w:World) (h:MkS w k a n) :
  Calls Tryz.prog 31 #[.agg #[Value.slice (a 0) (n 0) (c 0),Value.slice (a 1) (n 1) (c 1),Value.slice (a 2) (n 2) (c 2),Value.slice (a 3) (n 3) (c 3),Value.slice (a 4) (n 4) (c 4),Value.slice (a 5) (n 5) (c 5),Value.int .i64 gx,Value.int .i64 gy,Value.slice (a 6) (n 6) (c 6)],.int .i64 (k:Nat)] w fun e w'=>e=.returned (.bool true)∧Ok w w':=by
 have HKK:=hid hk
 obtain ⟨a0,ha0⟩:∃ x,x=a 0:=⟨_,rfl⟩
 obtain ⟨n0,hn0⟩:∃ x,x=n 0:=⟨_,rfl⟩
 obtain ⟨c0,hc0⟩:∃ x,x=c 0:=⟨_,rfl⟩
 obtain ⟨a1,ha1⟩:∃ x,x=a 1:=⟨_,rfl⟩
 obtain ⟨n1,hn1⟩:∃ x,x=n 1:=⟨_,rfl⟩
 obtain ⟨c1,hc1⟩:∃ x,x=c 1:=⟨_,rfl⟩
 obtain ⟨a2,ha2⟩:∃ x,x=a 2:=⟨_,rfl⟩
 obtain ⟨n2,hn2⟩:∃ x,x=n 2:=⟨_,rfl⟩
 obtain ⟨c2,hc2⟩:∃ x,x=c 2:=⟨_,rfl⟩
 obtain ⟨a3,ha3⟩:∃ x,x=a 3:=⟨_,rfl⟩
 obtain ⟨n3,hn3⟩:∃ x,x=n 3:=⟨_,rfl⟩
 obtain ⟨c3,hc3⟩:∃ x,x=c 3:=⟨_,rfl⟩
 obtain ⟨a4,ha4⟩:∃ x,x=a 4:=⟨_,rfl⟩
 obtain ⟨n4,hn4⟩:∃ x,x=n 4:=⟨_,rfl⟩
 obtain ⟨c4,hc4⟩:∃ x,x=c 4:=⟨_,rfl⟩
 obtain ⟨a5,ha5⟩:∃ x,x=a 5:=⟨_,rfl⟩
 obtain ⟨n5,hn5⟩:∃ x,x=n 5:=⟨_,rfl⟩
 obtain ⟨c5,hc5⟩:∃ x,x=c 5:=⟨_,rfl⟩
 obtain ⟨a6,ha6⟩:∃ x,x=a 6:=⟨_,rfl⟩
 obtain ⟨n6,hn6⟩:∃ x,x=n 6:=⟨_,rfl⟩
 obtain ⟨c6,hc6⟩:∃ x,x=c 6:=⟨_,rfl⟩
 rw [←ha0,←hn0,←hc0,←ha1,←hn1,←hc1,←ha2,←hn2,←hc2,←ha3,←hn3,←hc3,←ha4,←hn4,←hc4,←ha5,←hn5,←hc5,←ha6,←hn6,←hc6]
 have HEQ:Hid (a0=a 0∧n0=n 0∧a1=a 1∧n1=n 1∧a2=a 2∧n2=n 2∧a3=a 3∧n3=n 3∧a4=a 4∧n4=n 4∧a5=a 5∧n5=n 5∧a6=a 6∧n6=n 6):=⟨ha0,hn0,ha1,hn1,ha2,hn2,ha3,hn3,ha4,hn4,ha5,hn5,ha6,hn6⟩
 have HLE:Hid (n0≤100000∧n1≤100000∧n2≤100000∧n3≤100000∧n4≤100000∧n5≤100000∧n6≤100000):=by have:=h.le;exact ⟨by rw [hn0];exact this 0 (by decide),by rw [hn1];exact this 1 (by decide),by rw [hn2];exact this 2 (by decide),by rw [hn3];exact this 3 (by decide),by rw [hn4];exact this 4 (by decide),by rw [hn5];exact this 5 (by decide),by rw [hn6];exact this 6 (by decide)⟩
 obtain ⟨w0,hw0⟩:∃ x,x=w.alloc (Obj.cells #[Value.slice a0 n0 c0,Value.slice a1 n1 c1,Value.slice a2 n2 c2,Value.slice a3 n3 c3,Value.slice a4 n4 c4,Value.slice a5 n5 c5,Value.int .i64 gx,Value.int .i64 gy,Value.slice a6 n6 c6] 42):=⟨_,rfl⟩
 have HK0:Hid (Ok w w0):=by unfold Hid;rw [hw0];exact (Ok.refl w).alloc _
 have HM:Hid (MkS w0 k a n):=h.below HK0.out
 have HG:Hid (w0.heap[w.heap.size]?=some (.cells #[Value.slice a0 n0 c0,Value.slice a1 n1 c1,Value.slice a2 n2 c2,Value.slice a3 n3 c3,Value.slice a4 n4 c4,Value.slice a5 n5 c5,Value.int .i64 gx,Value.int .i64 gy,Value.slice a6 n6 c6] 42 (0,0))):=by unfold Hid;rw [hw0];exact za6 _ _
 obtain ⟨gb,hgb⟩:∃ x,x=w.heap.size:=⟨_,rfl⟩
 rw [←hgb] at HG
 have HC:Hid (∀ X,Ok w0 X→gb<X.heap.size∧X.cell? ⟨gb,0,none⟩=some (.slice a0 n0 c0)∧X.cell? ⟨gb,1,none⟩=some (.slice a1 n1 c1)∧X.cell? ⟨gb,2,none⟩=some (.slice a2 n2 c2)∧X.cell? ⟨gb,3,none⟩=some (.slice a3 n3 c3)∧X.cell? ⟨gb,4,none⟩=some (.slice a4 n4 c4)∧X.cell? ⟨gb,5,none⟩=some (.slice a5 n5 c5)∧X.cell? ⟨gb,8,none⟩=some (.slice a6 n6 c6)∧X.cell? ⟨gb,6,none⟩=some (.int .i64 gx)∧X.cell? ⟨gb,7,none⟩=some (.int .i64 gy)):=fun X hX=>⟨za3 (Ok.row' hX HG.out),(cell_of_row _ _ 0 _ _ _ (Ok.row' hX HG.out)).trans (by simp),(cell_of_row _ _ 1 _ _ _ (Ok.row' hX HG.out)).trans (by simp),(cell_of_row _ _ 2 _ _ _ (Ok.row' hX HG.out)).trans (by simp),(cell_of_row _ _ 3 _ _ _ (Ok.row' hX HG.out)).trans (by simp),(cell_of_row _ _ 4 _ _ _ (Ok.row' hX HG.out)).trans (by simp),(cell_of_row _ _ 5 _ _ _ (Ok.row' hX HG.out)).trans (by simp),(cell_of_row _ _ 8 _ _ _ (Ok.row' hX HG.out)).trans (by simp),(cell_of_row _ _ 6 _ _ _ (Ok.row' hX HG.out)).trans (by simp),(cell_of_row _ _ 7 _ _ _ (Ok.row' hX HG.out)).trans (by simp)⟩
 clear hk h ha0 hn0 hc0 ha1 hn1 hc1 ha2 hn2 hc2 ha3 hn3 hc3 ha4 hn4 hc4 ha5 hn5 hc5 ha6 hn6 hc6
 go_enter Tryz.func31,Tryz.ntmps31
 go_wp2_with fail
 rw [←hw0,←hgb]
 clear hw0 hgb HG
 have HW0:Hid (Ok w0 w0):=Ok.refl _
 go_loopw [15] (fun t wr=>∃ i:Nat,i≤n6∧t=.int .i64 (i:Nat)∧Hid (Ok w0 wr)) (fun t _=>n6-(intOf t).toNat)
 case atStart=>exact ⟨0,Nat.zero_le _,rfl,HW0.out⟩
 case round =>
  try clear z1 q0 q1 q2 q3 q4 q5 q6 q7 q8
  obtain ⟨i,hi,rfl,HW6⟩:=hrel
  obtain ⟨z1,q0,q1,q2,q3,q4,q5,q6,q7,q8⟩:=HC.out wr HW6.out
  by_cases hlt:i<n6
  ·have hlt':(i:Int)<(n6:Int):=za4 hlt
   have hkw:IntKind.i64.wrap ((i:Int)+1)=((i+1:Nat):Int):=zb0 (by have:=HLE.out;omega)
   obtain ⟨b,o,e6,l1,A⟩:=HM.out.at' 6 (by decide) i (by have:=HEQ.out;omega)
   have e7:a6=some ⟨b,o,none⟩:=by rw [←e6];exact HEQ.out.2.2.2.2.2.2.2.2.2.2.2.2.1
   subst e7
   have HSS:Hid (∀ X,Ok w0 X→X.cell? ⟨gb,8,none⟩=some (.slice (some ⟨b,o,none⟩) n6 c6)∧X.cell? ⟨b,o+i*6,none⟩=some (.int .i64 (-1-(k:Int)))∧X.cell? ⟨b,o+i*6+1,none⟩=some (.int .i64 0)∧X.cell? ⟨b,o+i*6+2,none⟩=some (.int .i64 0)∧X.cell? ⟨b,o+i*6+3,none⟩=some (.int .i64 0)∧X.cell? ⟨b,o+i*6+4,none⟩=some (.bool false)∧X.cell? ⟨b,o+i*6+5,none⟩=some (.bool false)):=fun X hX=>by
    obtain ⟨z1,q0,q1,q2,q3,q4,q5,q6,q7,q8⟩:=HC.out X hX
    have B:∀ t u,(wdM k 6)[t]?=some u→X.cell? ⟨b,o+i*6+t,none⟩=some u:=fun t u ht=>(Below.cell (show Below w0.heap.size w0 X from hX) (p:=⟨b,_,none⟩) l1).trans (A t u ht)
    exact ⟨q6,B 0 _ rfl,B 1 _ rfl,B 2 _ rfl,B 3 _ rfl,B 4 _ rfl,B 5 _ rfl⟩
   have K0:=HSS.out wr.drew (HW6.out.step (Below.drew (Ok.refl _)))
   have l2:b<wr.heap.size:=Nat.lt_of_lt_of_le l1 HW6.out.le
   have gq:=guEd
   have eq1:=eqEdM k
   clear A e6
   go_wp2_with fail
   go_region_held3 (fun X=>X.cell? ⟨gb,8,none⟩=some (.slice (some ⟨b,o,none⟩) n6 c6)∧X.cell? ⟨b,o+i*6,none⟩=some (.int .i64 (-1-(k:Int)))∧X.cell? ⟨b,o+i*6+1,none⟩=some (.int .i64 0)∧X.cell? ⟨b,o+i*6+2,none⟩=some (.int .i64 0)∧X.cell? ⟨b,o+i*6+3,none⟩=some (.int .i64 0)∧X.cell? ⟨b,o+i*6+4,none⟩=some (.bool false)∧X.cell? ⟨b,o+i*6+5,none⟩=some (.bool false))
    (first | (with_reducible exact d01) | (with_reducible exact K0) | go_keep)
    (first
    | (go_at_call 46;refine (Calls.mono (zp0 k HKK.out _) ?_);rintro e w5 ⟨rfl,hk5⟩;have HK5:Hid (Ok w0 w5):=Ok.step (HW6.out.step (Below.drew (Ok.refl _))) hk5;have d01:=HSS.out w5 HK5.out;clear hk5)
    | fail)
   go_wp2_with fail
   go_roundw
   case rel=>exact ⟨i+1,hlt,rfl,HK5.out⟩
   case measure=>simp only [intOf,Int.toNat_natCast];omega
  ·have hlt':¬(i:Int)<(n6:Int):=za9 hlt
   clear hi hlt
   go_wp2_with fail
   go_loopw [31] (fun t wr=>∃ i:Nat,i≤n0∧t=.int .i64 (i:Nat)∧Hid (Ok w0 wr)) (fun t _=>n0-(intOf t).toNat)
   case atStart=>exact ⟨0,Nat.zero_le _,rfl,HW6.out⟩
   case round =>
    try clear z1 q0 q1 q2 q3 q4 q5 q6 q7 q8
    obtain ⟨i,hi,rfl,HW0⟩:=hrel
    obtain ⟨z1,q0,q1,q2,q3,q4,q5,q6,q7,q8⟩:=HC.out wr HW0.out
    by_cases hlt:i<n0
    ·have hlt':(i:Int)<(n0:Int):=za4 hlt
     have hkw:IntKind.i64.wrap ((i:Int)+1)=((i+1:Nat):Int):=zb0 (by have:=HLE.out;omega)
     obtain ⟨b,o,e6,l1,A⟩:=HM.out.at' 0 (by decide) i (by have:=HEQ.out;omega)
     have e7:a0=some ⟨b,o,none⟩:=by rw [←e6];exact HEQ.out.1
     subst e7
     have HSS:Hid (∀ X,Ok w0 X→X.cell? ⟨gb,0,none⟩=some (.slice (some ⟨b,o,none⟩) n0 c0)∧X.cell? ⟨b,o+i*6,none⟩=some (.int .i64 (-1-(k:Int)))∧X.cell? ⟨b,o+i*6+1,none⟩=some (.int .i64 0)∧X.cell? ⟨b,o+i*6+2,none⟩=some (.string ⟨#[]⟩)∧X.cell? ⟨b,o+i*6+3,none⟩=some (.int .i64 0)∧X.cell? ⟨b,o+i*6+4,none⟩=some (.int .i64 0)∧X.cell? ⟨b,o+i*6+5,none⟩=some (.int .i64 0)):=fun X hX=>by
      obtain ⟨z1,q0,q1,q2,q3,q4,q5,q6,q7,q8⟩:=HC.out X hX
      have B:∀ t u,(wdM k 0)[t]?=some u→X.cell? ⟨b,o+i*6+t,none⟩=some u:=fun t u ht=>(Below.cell (show Below w0.heap.size w0 X from hX) (p:=⟨b,_,none⟩) l1).trans (A t u ht)
      exact ⟨q0,B 0 _ rfl,B 1 _ rfl,B 2 _ rfl,B 3 _ rfl,B 4 _ rfl,B 5 _ rfl⟩
     have K0:=HSS.out wr.drew (HW0.out.step (Below.drew (Ok.refl _)))
     have l2:b<wr.heap.size:=Nat.lt_of_lt_of_le l1 HW0.out.le
     have gq:=guNd
     have eq1:=eqNodeM k
     clear A e6
     go_wp2_with fail
     go_region_held3 (fun X=>X.cell? ⟨gb,0,none⟩=some (.slice (some ⟨b,o,none⟩) n0 c0)∧X.cell? ⟨b,o+i*6,none⟩=some (.int .i64 (-1-(k:Int)))∧X.cell? ⟨b,o+i*6+1,none⟩=some (.int .i64 0)∧X.cell? ⟨b,o+i*6+2,none⟩=some (.string ⟨#[]⟩)∧X.cell? ⟨b,o+i*6+3,none⟩=some (.int .i64 0)∧X.cell? ⟨b,o+i*6+4,none⟩=some (.int .i64 0)∧X.cell? ⟨b,o+i*6+5,none⟩=some (.int .i64 0))
      (first | (with_reducible exact d01) | (with_reducible exact K0) | go_keep)
      (first
      | (go_at_call 47;refine (Calls.mono (zp1 k HKK.out _) ?_);rintro e w5 ⟨rfl,hk5⟩;have HK5:Hid (Ok w0 w5):=Ok.step (HW0.out.step (Below.drew (Ok.refl _))) hk5;have d01:=HSS.out w5 HK5.out;clear hk5)
      | fail)
     go_wp2_with fail
     go_roundw
     case rel=>exact ⟨i+1,hlt,rfl,HK5.out⟩
     case measure=>simp only [intOf,Int.toNat_natCast];omega
    ·have hlt':¬(i:Int)<(n0:Int):=za9 hlt
     clear hi hlt
     go_wp2_with fail
     go_loopw [48] (fun t wr=>∃ i:Nat,i≤n1∧t=.int .i64 (i:Nat)∧Hid (Ok w0 wr)) (fun t _=>n1-(intOf t).toNat)
     case atStart=>exact ⟨0,Nat.zero_le _,rfl,HW0.out⟩
     case round =>
      try clear z1 q0 q1 q2 q3 q4 q5 q6 q7 q8
      obtain ⟨i,hi,rfl,HW1⟩:=hrel
      obtain ⟨z1,q0,q1,q2,q3,q4,q5,q6,q7,q8⟩:=HC.out wr HW1.out
      by_cases hlt:i<n1
      ·have hlt':(i:Int)<(n1:Int):=za4 hlt
       have hkw:IntKind.i64.wrap ((i:Int)+1)=((i+1:Nat):Int):=zb0 (by have:=HLE.out;omega)
       obtain ⟨b,o,e6,l1,A⟩:=HM.out.at' 1 (by decide) i (by have:=HEQ.out;omega)
       have e7:a1=some ⟨b,o,none⟩:=by rw [←e6];exact HEQ.out.2.2.1
       subst e7
       have HSS:Hid (∀ X,Ok w0 X→X.cell? ⟨gb,1,none⟩=some (.slice (some ⟨b,o,none⟩) n1 c1)∧X.cell? ⟨b,o+i,none⟩=some (.string (nmM k))):=fun X hX=>by
        obtain ⟨z1,q0,q1,q2,q3,q4,q5,q6,q7,q8⟩:=HC.out X hX
        have B:∀ t u,(wdM k 1)[t]?=some u→X.cell? ⟨b,o+i*1+t,none⟩=some u:=fun t u ht=>(Below.cell (show Below w0.heap.size w0 X from hX) (p:=⟨b,_,none⟩) l1).trans (A t u ht)
        exact ⟨q1,by have:=B 0 _ rfl;rw [Nat.mul_one,Nat.add_zero] at this;exact this⟩
       have K0:=HSS.out wr.drew (HW1.out.step (Below.drew (Ok.refl _)))
       have l2:b<wr.heap.size:=Nat.lt_of_lt_of_le l1 HW1.out.le
       have eq1:((nmM k).toList==(nmM k).toList)=true:=by simp
       clear A e6
       go_wp2_with fail
       go_region_held3 (fun X=>X.cell? ⟨gb,1,none⟩=some (.slice (some ⟨b,o,none⟩) n1 c1)∧X.cell? ⟨b,o+i,none⟩=some (.string (nmM k)))
        (first | (with_reducible exact d01) | (with_reducible exact K0) | go_keep)
        (first
        | (go_at_call 48;refine (Calls.mono (zp2 k HKK.out _) ?_);rintro e w5 ⟨rfl,hk5⟩;have HK5:Hid (Ok w0 w5):=Ok.step (HW1.out.step (Below.drew (Ok.refl _))) hk5;have d01:=HSS.out w5 HK5.out;clear hk5)
        | fail)
       go_wp2_with fail
       go_roundw
       case rel=>exact ⟨i+1,hlt,rfl,HK5.out⟩
       case measure=>simp only [intOf,Int.toNat_natCast];omega
      ·have hlt':¬(i:Int)<(n1:Int):=za9 hlt
       clear hi hlt
       go_wp2_with fail
       go_loopw [65] (fun t wr=>∃ i:Nat,i≤n2∧t=.int .i64 (i:Nat)∧Hid (Ok w0 wr)) (fun t _=>n2-(intOf t).toNat)
       case atStart=>exact ⟨0,Nat.zero_le _,rfl,HW1.out⟩
       case round =>
        try clear z1 q0 q1 q2 q3 q4 q5 q6 q7 q8
        obtain ⟨i,hi,rfl,HW2⟩:=hrel
        obtain ⟨z1,q0,q1,q2,q3,q4,q5,q6,q7,q8⟩:=HC.out wr HW2.out
        by_cases hlt:i<n2
        ·have hlt':(i:Int)<(n2:Int):=za4 hlt
         have hkw:IntKind.i64.wrap ((i:Int)+1)=((i+1:Nat):Int):=zb0 (by have:=HLE.out;omega)
         obtain ⟨b,o,e6,l1,A⟩:=HM.out.at' 2 (by decide) i (by have:=HEQ.out;omega)
         have e7:a2=some ⟨b,o,none⟩:=by rw [←e6];exact HEQ.out.2.2.2.2.1
         subst e7
         have HSS:Hid (∀ X,Ok w0 X→X.cell? ⟨gb,2,none⟩=some (.slice (some ⟨b,o,none⟩) n2 c2)∧X.cell? ⟨b,o+i*2,none⟩=some (.string ⟨#[]⟩)∧X.cell? ⟨b,o+i*2+1,none⟩=some (.int .i64 (-1-(k:Int)))):=fun X hX=>by
          obtain ⟨z1,q0,q1,q2,q3,q4,q5,q6,q7,q8⟩:=HC.out X hX
          have B:∀ t u,(wdM k 2)[t]?=some u→X.cell? ⟨b,o+i*2+t,none⟩=some u:=fun t u ht=>(Below.cell (show Below w0.heap.size w0 X from hX) (p:=⟨b,_,none⟩) l1).trans (A t u ht)
          exact ⟨q2,B 0 _ rfl,B 1 _ rfl⟩
         have K0:=HSS.out wr.drew (HW2.out.step (Below.drew (Ok.refl _)))
         have l2:b<wr.heap.size:=Nat.lt_of_lt_of_le l1 HW2.out.le
         have gq:=gu76
         have eq1:=eqArM k
         clear A e6
         go_wp2_with fail
         go_region_held3 (fun X=>X.cell? ⟨gb,2,none⟩=some (.slice (some ⟨b,o,none⟩) n2 c2)∧X.cell? ⟨b,o+i*2,none⟩=some (.string ⟨#[]⟩)∧X.cell? ⟨b,o+i*2+1,none⟩=some (.int .i64 (-1-(k:Int))))
          (first | (with_reducible exact d01) | (with_reducible exact K0) | go_keep)
          (first
          | (go_at_call 49;refine (Calls.mono (zm5 k HKK.out _) ?_);rintro e w5 ⟨rfl,hk5⟩;have HK5:Hid (Ok w0 w5):=Ok.step (HW2.out.step (Below.drew (Ok.refl _))) hk5;have d01:=HSS.out w5 HK5.out;clear hk5)
          | fail)
         go_wp2_with fail
         go_roundw
         case rel=>exact ⟨i+1,hlt,rfl,HK5.out⟩
         case measure=>simp only [intOf,Int.toNat_natCast];omega
        ·have hlt':¬(i:Int)<(n2:Int):=za9 hlt
         clear hi hlt
         go_wp2_with fail
         refine (zH9 _ _ _ _ _ _ _ _ _ _ _ _ _ _ _ _ _ _ _ _ _ _ _ wr).mono ?_
         rintro e wi ⟨r,rfl,hr1,hr2,hk9⟩
         have HKI:Hid (Ok w0 wi):=HW2.out.step hk9
         have HRW:Hid (wi.heap[r]?=some (.cells #[.slice a3 n3 c3,.slice a4 n4 c4,.slice a5 n5 c5] 25 (0,0))):=hr2
         have h3k:wrap64 (3*(k:Int))=3*(k:Int):=by have:=HKK.out;unfold wrap64;omega
         have h3l:wrap64 (-1-3*(k:Int)) = -1-3*(k:Int):=by have:=HKK.out;unfold wrap64;omega
         clear hk9 hr1 hr2 z1 q0 q1 q2 q3 q4 q5 q6 q7 q8
         go_wp2_with fail
         go_loopw [82] (fun t wr=>∃ m:Nat,m≤3∧t=.int .i64 (m:Nat)∧Hid (Ok wi wr)) (fun t _=>3-(intOf t).toNat)
         case atStart=>exact ⟨0,by omega,rfl,Ok.refl _⟩
         case round =>
          obtain ⟨m,hm,rfl,HI⟩:=hrel
          by_cases hlt:m<3
          ·have hmw:IntKind.i64.wrap ((m:Int)+1)=((m+1:Nat):Int):=zb0 (by omega)
           have hlt':(m:Int)<3:=by omega
           obtain ⟨av,nv,cv,hrow⟩:∃ av nv cv,(∀ X,Ok wi X→X.cell? ⟨r,m,none⟩=some (.slice av nv cv)∧r<X.heap.size)∧av=a (3+m)∧nv=n (3+m):=by
            have hX:∀ X,Ok wi X→X.heap[r]?=some (.cells #[.slice a3 n3 c3,.slice a4 n4 c4,.slice a5 n5 c5] 25 (0,0)):=fun X hX=>Ok.row' hX HRW.out
            rcases (show m=0∨m=1∨m=2 by omega) with rfl | rfl | rfl
            ·exact ⟨a3,n3,c3,fun X h=>⟨(cell_of_row _ _ 0 _ _ _ (hX X h)).trans (by simp),za3 (hX X h)⟩,by have:=HEQ.out;exact this.2.2.2.2.2.2.1,by have:=HEQ.out;exact this.2.2.2.2.2.2.2.1⟩
            ·exact ⟨a4,n4,c4,fun X h=>⟨(cell_of_row _ _ 1 _ _ _ (hX X h)).trans (by simp),za3 (hX X h)⟩,by have:=HEQ.out;exact this.2.2.2.2.2.2.2.2.1,by have:=HEQ.out;exact this.2.2.2.2.2.2.2.2.2.1⟩
            ·exact ⟨a5,n5,c5,fun X h=>⟨(cell_of_row _ _ 2 _ _ _ (hX X h)).trans (by simp),za3 (hX X h)⟩,by have:=HEQ.out;exact this.2.2.2.2.2.2.2.2.2.2.1,by have:=HEQ.out;exact this.2.2.2.2.2.2.2.2.2.2.2.1⟩
           have HRX:Hid ((∀ X,Ok wi X→X.cell? ⟨r,m,none⟩=some (.slice av nv cv)∧r<X.heap.size)∧av=a (3+m)∧nv=n (3+m)):=hrow
           have h3m:wrap64 (-1-3*(k:Int)-(m:Int)) = -1-3*(k:Int)-(m:Int):=by have:=HKK.out;unfold wrap64;omega
           have HNV:Hid (nv≤100000):=by have:=HM.out.le (3+m) (by omega);unfold Hid;rw [hrow.2.2];exact this
           have HLM:Hid (m<3):=hlt
           obtain ⟨s0,s1⟩:=hrow.1 wr HI.out
           clear hrow hm
           go_wp2_with fail
           go_loopw [90] (fun t wr=>∃ i:Nat,i≤nv∧t=.int .i64 (i:Nat)∧Hid (Ok wi wr)) (fun t _=>nv-(intOf t).toNat)
           case atStart=>exact ⟨0,Nat.zero_le _,rfl,HI⟩
           case round =>
            clear s0 s1
            obtain ⟨i,hi,rfl,HZ⟩:=hrel
            obtain ⟨s0,s1⟩:=HRX.out.1 wr HZ.out
            by_cases hln:i<nv
            ·have hln':(i:Int)<(nv:Int):=za4 hln
             have hkw:IntKind.i64.wrap ((i:Int)+1)=((i+1:Nat):Int):=zb0 (by have:=HNV.out;omega)
             obtain ⟨b,o,e6,l1,A⟩:=(HM.out.below (HKI.out.step HZ.out)).at' (3+m) (by have:=HLM.out;omega) i (by rw [←HRX.out.2.2];exact hln)
             have e7:av=some ⟨b,o,none⟩:=by rw [←e6];exact HRX.out.2.1
             subst e7
             have hwd:wdM k (3+m)=[.int .i64 (-1-3*(k:Int)-(m:Int))]:=by unfold wdM;rw [if_neg (by omega),if_neg (by omega),if_neg (by omega),if_neg (by have:=HLM.out;omega)];congr 2;omega
             have A0:=A 0 (.int .i64 (-1-3*(k:Int)-(m:Int))) (by rw [hwd];rfl)
             rw [hwd] at A0
             simp only [List.length_cons,List.length_nil,Nat.zero_add,Nat.mul_one,Nat.add_zero] at A0
             clear A e6 hwd
             go_wp2_with fail
             go_roundw
             case rel=>exact ⟨i+1,hln,rfl,HZ⟩
             case measure=>simp only [intOf,Int.toNat_natCast];omega
            ·have hln':¬(i:Int)<(nv:Int):=za9 hln
             go_wp2_with fail
             go_roundw
             case rel=>exact ⟨m+1,by have:=HLM.out;omega,rfl,HZ⟩
             case measure=>have:=HLM.out;simp only [intOf,Int.toNat_natCast];omega
          ·have hlt':¬(m:Int)<3:=by omega
           go_wp2_with fail
           go_ret
           exact ⟨rfl,HK0.out.step (HKI.out.step HI.out)⟩
end
section
open Go.RowKit
def TY7 (j:Nat):Nat:=if j=6 then 53 else TY j
def SZ7 (j:Nat):Nat:=if j=6 then 6 else SZ j
theorem zF2 (k:Nat) {j:Nat} (hj:j<7):(wdM k j).length=SZ7 j:=by
 rcases (show j=0∨j=1∨j=2∨j=3∨j=4∨j=5∨j=6 by omega) with rfl | rfl | rfl | rfl | rfl | rfl | rfl<;>rfl
def setL (w:World) (b:Nat):Nat→List Value→World
 | _,[]=>w
 | p,v::r=>setL (w.setCell ⟨b,p,none⟩ v) b (p+1) r
def setR (xs:List Value):Nat→List Value→List Value
 | _,[]=>xs
 | p,v::r=>setR (xs.set p v) (p+1) r
theorem zg7 (b:Nat) {g:Nat} (h:g≠b):∀ (c:List Value) (w:World) (p:Nat),(setL w b p c).heap[g]?=w.heap[g]?
 | [],w,p=>rfl
 | v::r,w,p=>by rw [setL,zg7 b h r,Below.heap_setCell _ _ _ _ h]
theorem zI0 {B g cap:Nat} {e:TypeId} {s n:Nat}:∀ (c:List Value) (w:World) (p:Nat) (xs:List Value),w.ownsRow B e s (.slice (some ⟨g,0,none⟩) n cap) n xs→(setL w g p c).ownsRow B e s (.slice (some ⟨g,0,none⟩) n cap) n (setR xs p c)
 | [],w,p,xs,h=>h
 | v::r,w,p,xs,h=>zI0 r _ _ _ (World.ownsRow.stored h p v).1
theorem zu5 {B:Nat} {w0:World} {b:Nat} (hb:B≤b):∀ (c:List Value) (w:World) (p:Nat),Below B w0 w→Below B w0 (setL w b p c)
 | [],w,p,h=>h
 | v::r,w,p,h=>zu5 hb r _ _ (h.setCell (p:=⟨b,p,none⟩) hb v)
theorem zI1:∀ (c xs ys:List Value),c.length≤ys.length→setR (xs++ys) xs.length c=xs++(c++ys.drop c.length)
 | [],xs,ys,_=>rfl
 | v::r,xs,[],h=>by simp at h
 | v::r,xs,y::ys,h=>by
  rw [setR,List.set_append_right _ _ (Nat.le_refl _),Nat.sub_self,List.set_cons_zero,show xs++v::ys=(xs++[v])++ys by simp,show xs.length+1=(xs++[v]).length by simp,zI1 r (xs++[v]) ys (by simpa using h)]
  simp
def rep (n:Nat) (c:List Value):List Value:=(List.replicate n c).flatten
theorem zF3 (n:Nat) (c:List Value):(rep n c).length=n*c.length:=by simp [rep]
theorem zI2 (n:Nat) (c:List Value):rep (n+1) c=rep n c++c:=by unfold rep;rw [List.replicate_succ'];simp
theorem zW3 {n i t:Nat} {c:List Value} {u:Value} (hi:i<n) (h:c[t]?=some u):(rep n c)[i*c.length+t]?=some u:=by
 obtain ⟨m,rfl⟩:∃ m,n=i+1+m:=⟨n-i-1,by omega⟩
 have ht:=(List.getElem?_eq_some_iff.1 h).1
 have e:rep (i+1+m) c=rep i c++(c++rep m c):=by
  unfold rep
  rw [show i+1+m=i+(1+m) by omega,←List.replicate_append_replicate,←List.replicate_append_replicate,List.flatten_append,List.flatten_append]
  simp
 rw [e,List.getElem?_append_right (by rw [zF3];omega),zF3,Nat.add_sub_cancel_left,List.getElem?_append_left ht]
 exact h
theorem yd3 {c X:List Value} {n i:Nat} (hX:X.length=n*c.length) (hi:i<n):setR (rep i c++X.drop (i*c.length)) (i*c.length) c=rep (i+1) c++X.drop ((i+1)*c.length):=by
 have h1:(i+1)*c.length≤n*c.length:=Nat.mul_le_mul_right _ hi
 rw [Nat.add_mul,Nat.one_mul] at h1
 have:=zI1 c (rep i c) (X.drop (i*c.length)) (by rw [List.length_drop];omega)
 rw [zF3] at this
 rw [this,zI2,List.drop_drop,List.append_assoc,Nat.add_mul,Nat.one_mul]
section
variable (a:Nat→Nat→Option Addr) (n c:Nat→Nat→Nat) (x y:Nat→Int)
def slG (k j:Nat):Value:=.slice (a k j) (n k j) (c k j)
def gcV (k q:Nat):Value:=if q<6 then slG a n c k q else if q=6 then .int .i64 (x k) else if q=7 then .int .i64 (y k) else slG a n c k 6
def RowsY (w:World) (B:Nat) (Y:Nat→Nat→List Value):Prop:=∀ k,k<4→∀ j,j<7→w.ownsRow B (TY7 j) (SZ7 j) (slG a n c k j) (n k j) (Y k j)
def Dist:Prop:=∀ k j k' j',k<4→j<7→k'<4→j'<7→¬(k=k'∧j=j')→∀ b,(slG a n c k j).ownBlock=some b→(slG a n c k' j').ownBlock≠some b
def Yf (X:Nat→Nat→List Value) (N:Nat):Nat→Nat→List Value:=fun k j=>if k*7+(j+1)%7<N then rep (n k j) (wdM k j) else X k j
def updY (Y:Nat→Nat→List Value) (k j:Nat) (l:List Value):Nat→Nat→List Value:=fun k' j'=>if k'=k∧j'=j then l else Y k' j'
structure MI (w wr:World) (B gb:Nat) (Y:Nat→Nat→List Value):Prop where
 rows:RowsY a n c wr B Y
 bel:Below B w wr
 gs:wr.heap[gb]?=w.heap[gb]?
 lt:gb<wr.heap.size
end
variable {a:Nat→Nat→Option Addr} {n c:Nat→Nat→Nat}
theorem MI.congr {w wr:World} {B gb:Nat} {Y Y':Nat→Nat→List Value} (h:MI a n c w wr B gb Y) (e:∀ k,k<4→∀ j,j<7→Y k j=Y' k j):MI a n c w wr B gb Y' :=
 ⟨fun k hk j hj=>by rw [←e k hk j hj];exact h.rows k hk j hj,h.bel,h.gs,h.lt⟩
theorem MI.call {w wr w':World} {B gb:Nat} {Y:Nat→Nat→List Value} (h:MI a n c w wr B gb Y) (hB:B≤wr.heap.size) (hk:Ok wr w'):MI a n c w w' B gb Y :=
 ⟨fun k hk4 j hj=>za1 (h.rows k hk4 j hj) hk,h.bel.trans (Below.mono hk hB),by rw [←h.gs];exact Below.block hk gb h.lt,Nat.lt_of_lt_of_le h.lt hk.le⟩
theorem MI.put {w wr:World} {B gb:Nat} {Y:Nat→Nat→List Value} (h:MI a n c w wr B gb Y) (hd:Dist a n c) {k j b:Nat} (hk:k<4) (hj:j<7) (ha:a k j=some ⟨b,0,none⟩) (hg:b≠gb) (p:Nat) (l:List Value):MI a n c w (setL wr b p l) B gb (updY Y k j (setR (Y k j) p l)):=by
 have hb:(slG a n c k j).ownBlock=some b:=by unfold slG;rw [ha];rfl
 have hB:=((h.rows k hk j hj).lt b hb).1
 have hz:(setL wr b p l).heap.size=wr.heap.size:=by
  have:∀ (l:List Value) (w:World) (p:Nat),(setL w b p l).heap.size=w.heap.size:=by
   intro l
   induction l with
   | nil=>intro w p;rfl
   | cons v r ih=>intro w p;rw [setL,ih];simp
  exact this l wr p
 refine ⟨fun k' hk' j' hj'=>?_,zu5 hB l _ _ h.bel,by rw [zg7 b (fun e=>hg e.symm)];exact h.gs,by rw [hz];exact h.lt⟩
 unfold updY
 by_cases e:k'=k∧j'=j
 ·rw [if_pos e]
  obtain ⟨rfl,rfl⟩:=e
  have:=h.rows k' hk' j' hj'
  unfold slG at this ⊢
  rw [ha] at this ⊢
  exact zI0 l _ _ _ this
 ·rw [if_neg e]
  exact zd2 (h.rows k' hk' j' hj') fun b' hb'=>zg7 b (fun e'=>hd k' j' k j hk' hj' hk hj e b' hb' (by rw [e'];exact hb)) _ _ _
theorem zW4 (Y:Nat→Nat→List Value) (k j:Nat):updY Y k j (Y k j)=Y:=by
 funext k' j';unfold updY;split
 ·next h=>rw [h.1,h.2]
 ·rfl
theorem zN0 (Y:Nat→Nat→List Value) (k j:Nat) (l m:List Value):updY (updY Y k j l) k j m=updY Y k j m:=by
 funext k' j';unfold updY;split<;>rfl
theorem yi1 (Y:Nat→Nat→List Value) (k j:Nat) (l:List Value):updY Y k j l k j=l:=by unfold updY;rw [if_pos ⟨rfl,rfl⟩]
def parY (X:Nat→Nat→List Value) (k j i:Nat):List Value:=rep i (wdM k j)++(X k j).drop (i*(wdM k j).length)
theorem zo1 (X:Nat→Nat→List Value) {k j:Nat}:updY (Yf n X (k*7+(j+1)%7)) k j (parY X k j 0)=Yf n X (k*7+(j+1)%7):=by
 have e:parY X k j 0=Yf n X (k*7+(j+1)%7) k j:=by
  unfold parY Yf rep;rw [if_neg (by omega)];simp
 rw [e,zW4]
theorem zC1 (X:Nat→Nat→List Value) {k j:Nat} (hj:j<7) (hX:(X k j).length=n k j*(wdM k j).length):∀ k' j',j'<7→updY (Yf n X (k*7+(j+1)%7)) k j (parY X k j (n k j)) k' j'=Yf n X (k*7+(j+1)%7+1) k' j':=by
 intro k' j' hj'
 unfold updY
 by_cases e:k'=k∧j'=j
 ·rw [if_pos e]
  obtain ⟨rfl,rfl⟩:=e
  unfold Yf parY
  rw [if_pos (by omega),List.drop_of_length_le (by omega),List.append_nil]
 ·rw [if_neg e]
  unfold Yf
  by_cases g:k'*7+(j'+1)%7<k*7+(j+1)%7
  ·rw [if_pos g,if_pos (by omega)]
  ·rw [if_neg g,if_neg]
   intro g2
   apply e
   omega
theorem MI.cell {w wr:World} {B gb:Nat} {Y:Nat→Nat→List Value} (h:MI a n c w wr B gb Y) {k j b i:Nat} (hk:k<4) (hj:j<7) (ha:a k j=some ⟨b,0,none⟩) (hi:i<n k j):(∀ t,t<SZ7 j→∃ u,wr.cell? ⟨b,i*SZ7 j+t,none⟩=some u)∧(∀ t,wr.frozen? ⟨b,t,none⟩=false)∧b<wr.heap.size∧B≤b:=by
 have hr:=h.rows k hk j hj
 unfold slG at hr
 rw [ha] at hr
 have hb:=hr.lt b rfl
 refine ⟨fun t ht=>?_,fun t=>?_,hb.2,hb.1⟩
 ·have h1:i*SZ7 j+t<(Y k j).length:=by
   rw [hr.1]
   have:(i+1)*SZ7 j≤n k j*SZ7 j:=Nat.mul_le_mul_right _ hi
   rw [Nat.add_mul,Nat.one_mul] at this
   omega
  refine ⟨(Y k j)[i*SZ7 j+t],?_⟩
  have:=hr.cells (g:=b) rfl _ _ (List.getElem?_eq_getElem h1)
  rw [zc0,Nat.zero_add] at this
  exact this
 ·rcases hr.2 with ⟨e1,_⟩ | ⟨g',cap',cur,e1,h1,h2,_⟩
  ·cases e1
  ·injection e1 with e1
   injection e1 with e1
   injection e1 with e1
   subst e1
   exact frozen_of_row _ _ _ _ _ h2
theorem MI.mark {w wr:World} {B gb N:Nat} {X:Nat→Nat→List Value} {k j b i:Nat} (h:MI a n c w wr B gb (updY (Yf n X N) k j (parY X k j i))) (hd:Dist a n c) (hk:k<4) (hj:j<7) (ha:a k j=some ⟨b,0,none⟩) (hg:b≠gb) (hi:i<n k j) (hX:(X k j).length=n k j*(wdM k j).length):MI a n c w (setL wr b (i*SZ7 j) (wdM k j)) B gb (updY (Yf n X N) k j (parY X k j (i+1))):=by
 have:=h.put hd hk hj ha hg (i*SZ7 j) (wdM k j)
 rw [yi1,zN0] at this
 have e:setR (parY X k j i) (i*SZ7 j) (wdM k j)=parY X k j (i+1):=by
  unfold parY
  rw [←zF2 k hj]
  exact yd3 hX hi
 rw [e] at this
 exact this
theorem MI.cell1 {w wr:World} {B gb:Nat} {Y:Nat→Nat→List Value} (h:MI a n c w wr B gb Y) {k j b i:Nat} (hk:k<4) (hj:j<7) (ha:a k j=some ⟨b,0,none⟩) (hi:i<n k j) (h1:SZ7 j=1):∃ u,wr.cell? ⟨b,i,none⟩=some u:=by
 obtain ⟨u,hu⟩:=(h.cell hk hj ha hi).1 0 (by omega)
 rw [h1,Nat.mul_one,Nat.add_zero] at hu
 exact ⟨u,hu⟩
theorem zI3 {w:World} {b i j:Nat} {v:Value} {l:List Value} (h1:SZ7 j=1) (hl:l=[v]):w.setCell ⟨b,i,none⟩ v=setL w b (i*SZ7 j) l:=by rw [h1,Nat.mul_one,hl];rfl
end
end Go.Proofs.YtgobgdljckamkaaGreatDoor
