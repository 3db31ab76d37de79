import Derived.Test.YtgobgdljckamkaaGreatDoorKTi
set_option linter.unusedVariables false
set_option linter.unusedSimpArgs false
set_option linter.unnecessarySimpa false
namespace Go.Proofs.YtgobgdljckamkaaGreatDoor
section
open Go.RowKit
theorem zt3 {P:Nat→Prop} (h0:P 0) (h1:P 1) (h2:P 2) (h3:P 3) (h4:P 4) (h5:P 5):∀ k,k<6→P k:=by
 intro k hk
 rcases (show k=0∨k=1∨k=2∨k=3∨k=4∨k=5 by omega) with rfl | rfl | rfl | rfl | rfl | rfl
 ·exact h0
 ·exact h1
 ·exact h2
 ·exact h3
 ·exact h4
 ·exact h5
def CRows (w:World) (B:Nat) (g d:Nat→Nat) (ns:List Nd) (m:Ls):Prop:=∀ k,k<6→w.ownsRow B (TY k) (SZ k) (.slice (some ⟨g k,0,none⟩) (nOf ns.length m k+1) (d k)) (nOf ns.length m k+1) (xOf ns ns.length m k++mkOf k)
theorem CRows.pr {w:World} {B:Nat} {g d:Nat→Nat} {ns:List Nd} {m:Ls} (h:CRows w B g d ns m):PrIs w B (cpV ns m g d) ns m:=fun k hk=>zV5 (h k hk) (zE9 ns m k hk) (Nat.le_succ _)
theorem zn9 (ns:List Nd) (l:Ls):xOf ns ns.length l 0=ndL ns:=by unfold xOf;rw [if_pos rfl,List.take_length];rfl
theorem CRows.room {w:World} {B:Nat} {g d:Nat→Nat} {ns:List Nd} {m:Ls} (h:CRows w B g d ns m) (k:Nat) (hk:k<6):nOf ns.length m k+1≤d k∧d k≤maxLen:=zi6 (h k hk)
theorem CRows.ok {w w':World} {B:Nat} {g d:Nat→Nat} {ns:List Nd} {m:Ls} (h:CRows w B g d ns m) (hk:Ok w w'):CRows w' B g d ns m:=fun k h6=>za1 (h k h6) hk
end
section
open Go.RowKit
theorem zo0 (ns:List Nd):∀ (t:List Nd) (i:Nat) (l:Ls),(progFrom ns t i l).1=0→(progFrom ns t i l).2.2.sy.length=l.sy.length+t.length∧(progFrom ns t i l).2.2.so.length=l.so.length+t.length∧(progFrom ns t i l).2.2.sc.length≤l.sc.length+t.length∧(progFrom ns t i l).2.2.ar.length≤l.ar.length+t.length∧(progFrom ns t i l).2.2.si.length≤l.si.length+t.length
 | [],i,l,_=>⟨rfl,rfl,Nat.le_refl _,Nat.le_refl _,Nat.le_refl _⟩
 | n::t,i,l,h=>by
  rw [progFrom] at h ⊢
  split at h
  ·next h0 =>
   rw [if_pos h0]
   have:=zo0 ns t (i+1) (nextR ns i n l) h
   have k:(nextR ns i n l).sy.length=l.sy.length+1∧(nextR ns i n l).so.length=l.so.length+1∧(nextR ns i n l).sc.length≤l.sc.length+1∧(nextR ns i n l).ar.length≤l.ar.length+1∧(nextR ns i n l).si.length≤l.si.length+1:=by
    unfold nextR
    simp only
    refine ⟨by simp,by simp,?_,?_,?_⟩<;>(split<;>simp)
   rw [List.length_cons]
   omega
  ·next h0=>rw [if_neg h0] at *;exact absurd h h0
theorem zW1:∀ {es:List Ed} {i:Nat} {e:Ed},es[i]?=some e→∀ j u,(edV e)[j]?=some u→(edL es)[i*6+j]?=some u
 | [],i,e,h,_,_,_=>by simp at h
 | x::es,0,e,h,j,u,hu=>by
  simp at h;subst h
  have:edL (x::es)=edV x++edL es:=rfl
  rw [this,Nat.zero_mul,Nat.zero_add,List.getElem?_append_left (List.getElem?_eq_some_iff.1 hu).1]
  exact hu
 | x::es,i+1,e,h,j,u,hu=>by
  rw [List.getElem?_cons_succ] at h
  have e1:edL (x::es)=edV x++edL es:=rfl
  have hl:(edV x).length=6:=rfl
  rw [e1,List.getElem?_append_right (by omega),hl,show (i+1)*6+j-6=i*6+j by omega]
  exact zW1 h j u hu
theorem yc9 {L:List Ed} {A Z:Nat} (h:Segs L A Z):L.length≤2*(Z-A):=by
 obtain ⟨bs,rfl,hn,hb⟩:=h
 have key:∀ (cs:List (List Ed)),(∀ c∈cs,c.length≤2)→cs.flatten.length≤2*cs.length:=by
  intro cs
  induction cs with
  | nil=>intro _;simp
  | cons c cs ih =>
   intro hc
   have h1:=hc c List.mem_cons_self
   have h2:=ih (fun d hd=>hc d (List.mem_cons_of_mem _ hd))
   rw [List.flatten_cons,List.length_append,List.length_cons]
   omega
 have:=key bs (fun c hc=>by
  obtain ⟨i,hi,e⟩:=List.mem_iff_getElem.1 hc
  rcases hb i c (by rw [List.getElem?_eq_getElem hi,e]) with ⟨x,rfl,_⟩ | ⟨x,y,rfl,_⟩<;>simp)
 omega
theorem zW2 {ns:List Nd} (h:TreeOK ns):(elF ns).length≤2*ptF ns ns.length:=by
 have:=yc9 (yc6 h).seg
 omega
end
section
open Go.RowKit
theorem eqEdge (e:Ed) (w:World):(Op.equalIn 10000 53 (.agg #[.int .i64 e.from',.int .i64 e.to',.int .i64 e.op,.int .i64 e.place,.bool e.sense,.bool e.loop]) (.agg #[.int .i64 e.from',.int .i64 e.to',.int .i64 e.op,.int .i64 e.place,.bool e.sense,.bool e.loop])).run Tryz.prog w=.ok true w:=by
 rw [show (10000:Nat)=9999+1 from rfl,run_equalIn_agg w 9999 53 _ _ (by kernel_rfl) (by kernel_rfl)]
 simp only [Program.fieldsOf,Tryz.underlying53]
 go_simp
theorem guEd:Tryz.prog.eqGuardType Tryz.prog.depth 53=false:=by kernel_rfl
theorem SL.ed {w:World} {b o n:Nat} {cap:Nat} {es:List Ed} (h:SL w 6 (.slice (some ⟨b,o,none⟩) n cap) n (edL es)) (hn:n≠0) {k:Nat} {e:Ed} (hk:es[k]?=some e):b<w.heap.size∧∀ j u,(edV e)[j]?=some u→w.cell? ⟨b,o+k*6+j,none⟩=some u:=by
 obtain ⟨_,_,ao,cap',e1,h2⟩:=h
 injection e1 with e1 e2 e3
 obtain ⟨b',o',e4,hl,hc⟩:=h2.resolve_left hn
 rw [←e1] at e4
 injection e4 with e4
 injection e4 with e4 e5
 subst e4 e5
 exact ⟨hl,fun j u hj=>by have:=hc _ _ (zW1 hk j u hj);rw [Nat.add_assoc];exact this⟩
set_option maxRecDepth 100000 in
set_option maxHeartbeats 4000000 in
theorem yd0 (v u:Value) (es:List Ed) (w:World) (hv:SL w 6 v es.length (edL es)) (hu:SL w 6 u es.length (edL es)) (hl:es.length≤1000000) :
  Calls Tryz.prog 28 #[v,u] w fun e w'=>e=.returned (.bool true)∧Ok w w':=by
 have HV:=hid hv
 have HU:=hid hu
 obtain ⟨_,_,ao,ca,rfl,ha⟩:=hv
 obtain ⟨_,_,bo,cb,rfl,hb⟩:=hu
 obtain ⟨n,hn⟩:∃ x,x=es.length:=⟨_,rfl⟩
 have HN:Hid (n=es.length∧n≤1000000):=⟨hn,by omega⟩
 rw [←hn] at HV HU ha hb ⊢
 clear hn hl
 go_enter Tryz.func28,Tryz.ntmps28
 go_wp2_with fail
 go_loopw [5] (fun t wr=>∃ k:Nat,k≤n∧t=.int .i64 (k:Nat)∧Hid (Ok w wr)) (fun t _=>n-(intOf t).toNat)
 case atStart=>exact ⟨0,Nat.zero_le _,rfl,Ok.refl _⟩
 case round =>
  obtain ⟨k,hk,rfl,HW⟩:=hrel
  by_cases hlt:k<n
  ·obtain ⟨b1,o1,rfl,_⟩:=ha.resolve_left (by omega)
   obtain ⟨b2,o2,rfl,_⟩:=hb.resolve_left (by omega)
   have hlt':(k:Int)<(n:Int):=za4 hlt
   have hkw:IntKind.i64.wrap ((k:Int)+1)=((k+1:Nat):Int):=zb0 (by have:=HN.out;omega)
   obtain ⟨e,he⟩:∃ e,es[k]?=some e:=⟨_,List.getElem?_eq_getElem (by have:=HN.out;omega)⟩
   obtain ⟨l1,A⟩:=(HV.out.below HW.out).ed (by omega) he
   obtain ⟨l2,B⟩:=(HU.out.below HW.out).ed (by omega) he
   have c0:=A 0 _ rfl
   have c1:=A 1 _ rfl
   have c2:=A 2 _ rfl
   have c3:=A 3 _ rfl
   have c4:=A 4 _ rfl
   have c5:=A 5 _ rfl
   have d0:=B 0 _ rfl
   have d1:=B 1 _ rfl
   have d2:=B 2 _ rfl
   have d3:=B 3 _ rfl
   have d4:=B 4 _ rfl
   have d5:=B 5 _ rfl
   rw [Nat.add_zero] at c0 d0
   have gq:=guEd
   have eq1:∀ w,(Op.equalIn 10000 53 (.agg #[.int .i64 e.from',.int .i64 e.to',.int .i64 e.op,.int .i64 e.place,.bool e.sense,.bool e.loop]) (.agg #[.int .i64 e.from',.int .i64 e.to',.int .i64 e.op,.int .i64 e.place,.bool e.sense,.bool e.loop])).run Tryz.prog w=.ok true w:=eqEdge e
   clear A B he
   go_wp2_with fail
   go_quiet (fail)
   go_wp2_with fail
   go_roundw
   case rel=>exact ⟨k+1,hlt,rfl,HW.out.draws _⟩
   case measure=>simp only [intOf,Int.toNat_natCast];omega
  ·have hlt':¬(k:Int)<(n:Int):=za9 hlt
   go_wp2_with fail
   go_ret
   exact ⟨rfl,HW.out⟩
set_option maxRecDepth 100000 in
set_option maxHeartbeats 8000000 in
theorem yl9 (g0 g1 g2 g3 g4 g5 ev h0 h1 h2 h3 h4 h5 fv:Value) (a b:Int) (ns:List Nd) (l m:Ls) (es:List Ed) (w:World) (hg:ProgIs w g0 g1 g2 g3 g4 g5 ns l) (hh:ProgIs w h0 h1 h2 h3 h4 h5 ns m) (hs:sameLs l m=true) (he:SL w 6 ev es.length (edL es)) (hf:SL w 6 fv es.length (edL es)) (hl:es.length≤1000000) :
  Calls Tryz.prog 12 #[.agg #[g0,g1,g2,g3,g4,g5,.int .i64 a,.int .i64 b,ev],.agg #[h0,h1,h2,h3,h4,h5,.int .i64 a,.int .i64 b,fv]] w fun e w'=>e=.returned (.bool true)∧Ok w w':=by
 have HG:=hid hg
 have HH:=hid hh
 have HE:=hid he
 have HF:=hid hf
 have HS:=hid hs
 have HL:=hid hl
 obtain ⟨_,x0,y0,rfl,_⟩:=hg.nodes
 obtain ⟨_,X0,Y0,rfl,_⟩:=hh.nodes
 obtain ⟨_,_,x1,y1,rfl,_⟩:=hg.lists.sc.sl
 obtain ⟨_,_,X1,Y1,rfl,_⟩:=hh.lists.sc.sl
 obtain ⟨_,_,x2,y2,rfl,_⟩:=hg.lists.ar.sl
 obtain ⟨_,_,X2,Y2,rfl,_⟩:=hh.lists.ar.sl
 obtain ⟨_,_,x3,y3,rfl,_⟩:=hg.lists.sy.sl
 obtain ⟨_,_,X3,Y3,rfl,_⟩:=hh.lists.sy.sl
 obtain ⟨_,_,x4,y4,rfl,_⟩:=hg.lists.si.sl
 obtain ⟨_,_,X4,Y4,rfl,_⟩:=hh.lists.si.sl
 obtain ⟨_,_,x5,y5,rfl,_⟩:=hg.lists.so.sl
 obtain ⟨_,_,X5,Y5,rfl,_⟩:=hh.lists.so.sl
 obtain ⟨_,_,eo,ec,rfl,_⟩:=he
 obtain ⟨_,_,fo,fc,rfl,_⟩:=hf
 clear hg hh hs hl
 go_enter Tryz.func12,Tryz.ntmps12
 go_wp2_with fail
 obtain ⟨w0,hw0⟩:∃ x,x=(w.alloc (Obj.cells #[Value.slice x0 ns.length y0,Value.slice x1 l.sc.length y1,Value.slice x2 l.ar.length y2,Value.slice x3 l.sy.length y3,Value.slice x4 l.si.length y4,Value.slice x5 l.so.length y5,Value.int IntKind.i64 a,Value.int IntKind.i64 b,Value.slice eo es.length ec] 42)).alloc (Obj.cells #[Value.slice X0 ns.length Y0,Value.slice X1 m.sc.length Y1,Value.slice X2 m.ar.length Y2,Value.slice X3 m.sy.length Y3,Value.slice X4 m.si.length Y4,Value.slice X5 m.so.length Y5,Value.int IntKind.i64 a,Value.int IntKind.i64 b,Value.slice fo es.length fc] 42):=⟨_,rfl⟩
 obtain ⟨b1,hb1⟩:∃ x,x=w.heap.size+1:=⟨_,rfl⟩
 obtain ⟨b0,hb0⟩:∃ x,x=w.heap.size:=⟨_,rfl⟩
 rw [←hw0,←hb1,←hb0]
 have HK0:Hid (Ok w w0):=by unfold Hid;rw [hw0];exact ((Ok.refl w).alloc _).alloc _
 have HA0:Hid (w0.heap[b0]?=some (.cells #[Value.slice x0 ns.length y0,Value.slice x1 l.sc.length y1,Value.slice x2 l.ar.length y2,Value.slice x3 l.sy.length y3,Value.slice x4 l.si.length y4,Value.slice x5 l.so.length y5,Value.int IntKind.i64 a,Value.int IntKind.i64 b,Value.slice eo es.length ec] 42 (0,0))):=by unfold Hid;rw [hw0,hb0];exact Ok.row' ((Ok.refl _).alloc _) (za6 _ _)
 have HB0:Hid (w0.heap[b1]?=some (.cells #[Value.slice X0 ns.length Y0,Value.slice X1 m.sc.length Y1,Value.slice X2 m.ar.length Y2,Value.slice X3 m.sy.length Y3,Value.slice X4 m.si.length Y4,Value.slice X5 m.so.length Y5,Value.int IntKind.i64 a,Value.int IntKind.i64 b,Value.slice fo es.length fc] 42 (0,0))):=by unfold Hid;rw [hw0,hb1];exact zd0 _ _ _ (by simp)
 clear hw0 hb1 hb0
 refine (zr8 _ _ _ _ _ _ _ _ _ _ _ _ ns l m w0 (HG.out.below HK0.out) (HH.out.below HK0.out)).mono ?_
 rintro e w1 ⟨rfl,hk1⟩
 rw [HS.out]
 have HK1:Hid (Ok w w1):=HK0.out.step hk1
 have HA1:Hid _:=Ok.row' hk1 HA0.out
 have HB1:Hid _:=Ok.row' hk1 HB0.out
 clear hk1
 have p0:w1.cell? ⟨b0,0,none⟩=some (.slice x0 ns.length y0):=(cell_of_row _ _ 0 _ _ _ HA1.out).trans (by simp)
 have p1:w1.cell? ⟨b0,1,none⟩=some (.slice x1 l.sc.length y1):=(cell_of_row _ _ 1 _ _ _ HA1.out).trans (by simp)
 have p2:w1.cell? ⟨b0,2,none⟩=some (.slice x2 l.ar.length y2):=(cell_of_row _ _ 2 _ _ _ HA1.out).trans (by simp)
 have p3:w1.cell? ⟨b0,3,none⟩=some (.slice x3 l.sy.length y3):=(cell_of_row _ _ 3 _ _ _ HA1.out).trans (by simp)
 have p4:w1.cell? ⟨b0,4,none⟩=some (.slice x4 l.si.length y4):=(cell_of_row _ _ 4 _ _ _ HA1.out).trans (by simp)
 have p5:w1.cell? ⟨b0,5,none⟩=some (.slice x5 l.so.length y5):=(cell_of_row _ _ 5 _ _ _ HA1.out).trans (by simp)
 have p6:w1.cell? ⟨b0,6,none⟩=some (.int .i64 a):=(cell_of_row _ _ 6 _ _ _ HA1.out).trans (by simp)
 have p7:w1.cell? ⟨b0,7,none⟩=some (.int .i64 b):=(cell_of_row _ _ 7 _ _ _ HA1.out).trans (by simp)
 have p8:w1.cell? ⟨b0,8,none⟩=some (.slice eo es.length ec):=(cell_of_row _ _ 8 _ _ _ HA1.out).trans (by simp)
 have q0:w1.cell? ⟨b1,0,none⟩=some (.slice X0 ns.length Y0):=(cell_of_row _ _ 0 _ _ _ HB1.out).trans (by simp)
 have q1:w1.cell? ⟨b1,1,none⟩=some (.slice X1 m.sc.length Y1):=(cell_of_row _ _ 1 _ _ _ HB1.out).trans (by simp)
 have q2:w1.cell? ⟨b1,2,none⟩=some (.slice X2 m.ar.length Y2):=(cell_of_row _ _ 2 _ _ _ HB1.out).trans (by simp)
 have q3:w1.cell? ⟨b1,3,none⟩=some (.slice X3 m.sy.length Y3):=(cell_of_row _ _ 3 _ _ _ HB1.out).trans (by simp)
 have q4:w1.cell? ⟨b1,4,none⟩=some (.slice X4 m.si.length Y4):=(cell_of_row _ _ 4 _ _ _ HB1.out).trans (by simp)
 have q5:w1.cell? ⟨b1,5,none⟩=some (.slice X5 m.so.length Y5):=(cell_of_row _ _ 5 _ _ _ HB1.out).trans (by simp)
 have q6:w1.cell? ⟨b1,6,none⟩=some (.int .i64 a):=(cell_of_row _ _ 6 _ _ _ HB1.out).trans (by simp)
 have q7:w1.cell? ⟨b1,7,none⟩=some (.int .i64 b):=(cell_of_row _ _ 7 _ _ _ HB1.out).trans (by simp)
 have q8:w1.cell? ⟨b1,8,none⟩=some (.slice fo es.length fc):=(cell_of_row _ _ 8 _ _ _ HB1.out).trans (by simp)
 have l0:=za3 HA1.out
 have l1:=za3 HB1.out
 have bab:(b==b)=true:=by simp
 have aaa:(a==a)=true:=by simp
 go_wp2_with (first
  | (go_at_call 28;refine (yd0 _ _ es _ (HE.out.below HK1.out) (HF.out.below HK1.out) HL.out).mono ?_;rintro e w2 ⟨rfl,hk2⟩;have HK2:Hid (Ok w w2):=HK1.out.step hk2;clear hk2)
  | fail)
 go_ret
 exact ⟨rfl,HK2.out⟩
end
end Go.Proofs.YtgobgdljckamkaaGreatDoor
