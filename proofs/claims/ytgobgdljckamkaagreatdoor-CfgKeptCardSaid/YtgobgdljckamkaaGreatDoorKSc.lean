import Derived.Test.YtgobgdljckamkaaGreatDoorKSb
set_option linter.unusedVariables false
set_option linter.unusedSimpArgs false
set_option linter.unnecessarySimpa false
namespace Go.Proofs.YtgobgdljckamkaaGreatDoor
open Go.RowKit
theorem zn7 (base:Nat) (t ty e:TypeId) (i:TypeInfo) (size c:Nat) (w:World) (ht:Tryz.prog.underlying t=some (.slice e)) (hi:Tryz.prog.info? e=some i)
  (v:Value) (n:Nat) (xs:List Value) (hown:w.ownsRow base e size v n xs) :
  (Builtin.append_ #[t,t] ty #[v,.slice none 0 c]).run Tryz.prog w=.ok v w:=by
 rcases hown.2 with ⟨rfl,rfl⟩ | ⟨g,cap,cur,rfl,_,_,hnc,_⟩
 ·simp [Builtin.append_,run_underlying ht,sizeOf,typeInfo,hi,Builtin.lenOf,Builtin.firstCells]
 ·simp [Builtin.append_,run_underlying ht,sizeOf,typeInfo,hi,Builtin.lenOf,Builtin.firstCells,hnc,storeCells]
theorem zj3 (w:World) (base:Nat) (e:TypeId) (s:Nat) (hb:base≤w.heap.size):(w.alloc (.cells #[] e)).ownsRow base e s (.slice (some ⟨w.heap.size,0,none⟩) 0 0) 0 []:=by
 have:=World.ownsRow_lit (base:=base) (e:=e) (size:=s) w #[] 0 hb (Nat.zero_le _) (by simp)
 simpa using this
theorem zb3 {w:World} {ops:Array Oper} {rest:List Oper} {op:Oper} {a:Act} {Q:Exit→Act→World→Prop} (hgd:op.guard=none) (s x:Operand) (lT eT:TypeId) (sz bts:Nat) (z:Value)
  (ho:op.op=.call { callee:=.builtin .append,args:=#[s,x],argTypes:=#[lT,lT] })
  (hund:Tryz.prog.underlying lT=some (.slice eT)) (hinf:(Tryz.prog.info? eT).map (fun i=>(i.zero,i.size,i.bytes))=some (some z,sz,bts)) (hzc:z.cells.size=sz) (hsz:0<sz) (hbt:0<bts)
  (base:Nat) (sv:Value) (k:Nat) (ys:List Value) (hs:a.eval s=sv) (hown:w.ownsRow base eT sz sv k ys) (v:Value) (n:Nat) (xs:List Value) (hx:a.eval x=v) (hT:SL w sz v n xs)
  (hb:(k+n)*bts≤140737488355328) (hbase:base≤w.heap.size)
  (h:∀ v' w',w'.ownsRow base eT sz v' (k+n) (ys++xs)→w.grownBy w' sv.ownBlock→wpList Tryz.prog ops Q rest (a.put op.dst v') w'):wpList Tryz.prog ops Q (op::rest) a w:=by
 obtain ⟨i,hi,hz,hsi,hby⟩:=ze5 hinf
 obtain ⟨h0,h1,ao,cap,rfl,h2⟩:=hT
 cases ao with
 | none =>
  have hn:n=0:=by
   rcases h2 with h2 | ⟨b,o,e,_⟩
   ·exact h2
   ·cases e
  subst hn
  have hxs:xs=[]:=List.eq_nil_of_length_eq_zero (by omega)
  subst hxs
  refine wpList_plain hgd fun K hK=>?_
  have hrun:=zn7 base lT op.type eT i sz cap w hund hi sv k ys hown
  unfold Oper.wp
  simp [execOp,ho,resolve,invoke,builtin,hs,hx,hrun,Result.andThen]
  exact hK _ _ (h _ _ (by rw [List.append_nil];exact hown) (World.grownBy.refl w _))
 | some ad =>
  by_cases hn:n=0
  ·subst hn
   have hxs:xs=[]:=List.eq_nil_of_length_eq_zero (by omega)
   subst hxs
   refine wpList_append_own_at w hgd s x lT ho base eT i z sz bts hund hi hz hsi hby hzc hsz _ k ys hs hown ad 0 cap [] hx (by simp) (by intro j u hj;simp at hj) (by simp) (by have:=Nat.le_mul_of_pos_right (k+0) hbt;unfold maxLen;omega) hb hbase ?_
   intro v' w' k1 k2 k3 k4
   exact h v' w' k1 k2
  ·obtain ⟨b,o,e,hl,hc⟩:=h2.resolve_left hn
   cases e
   refine wpList_append_own_at w hgd s x lT ho base eT i z sz bts hund hi hz hsi hby hzc hsz _ k ys hs hown ⟨b,o,none⟩ n cap xs hx h0 (by intro j u hj;rw [zc0];exact hc j u hj) h1 (by have:=Nat.le_mul_of_pos_right (k+n) hbt;unfold maxLen;omega) hb hbase ?_
   intro v' w' k1 k2 k3 k4
   exact h v' w' k1 k2
theorem zj9 {w:World} {B g:Nat} {e:TypeId} {s n:Nat} {v:Value} {xs:List Value} (h:w.ownsRow B e s v n xs) (hg:g<B) (b0 b1 b2 b3 b4 b5:Value) :
  ((((((w.setCell ⟨g,0,none⟩ b0).setCell ⟨g,1,none⟩ b1).setCell ⟨g,2,none⟩ b2).setCell ⟨g,3,none⟩ b3).setCell ⟨g,4,none⟩ b4).setCell ⟨g,5,none⟩ b5).ownsRow B e s v n xs :=
 zc2 (zc2 (zc2 (zc2 (zc2 (zc2 h hg b0) hg b1) hg b2) hg b3) hg b4) hg b5
theorem zV5 {w:World} {B g cap:Nat} {e:TypeId} {s n m:Nat} {xs ys:List Value} (h:w.ownsRow B e s (.slice (some ⟨g,0,none⟩) m cap) m (xs++ys)) (hx:xs.length=n*s) (hn:n≤m):w.ownsRow B e s (.slice (some ⟨g,0,none⟩) n cap) n xs:=by
 refine ⟨hx,?_⟩
 rcases h.2 with ⟨e1,_⟩ | ⟨g',cap',cur,e1,h1,h2,h3,h4,h5,h6⟩
 ·cases e1
 ·injection e1 with e2 e3 e4
  injection e2 with e2
  injection e2 with e2
  subst e2 e4
  refine .inr ⟨g,cap,cur,rfl,h1,h2,by omega,h4,h5,?_⟩
  have hl:(xs++ys).length=m*s:=h.1
  have:xs=(xs++ys).take (n*s):=by rw [List.take_append_of_le_length (by omega),List.take_of_length_le (by omega)]
  rw [this,←h6,List.take_take]
  congr 1
  have:=Nat.mul_le_mul_right s hn
  omega
theorem SL.one (w:World) (t:TypeId) (xs:List Value) {s:Nat} (hs:xs.length=1*s) (h1:∀ u∈xs,u.oneCell'=true):SL (w.alloc (.cells xs.toArray t)) s (.slice (some ⟨w.heap.size,0,none⟩) 1 1) 1 xs:=by
 refine ⟨hs,h1,_,1,rfl,.inr ⟨_,0,rfl,by simp,fun j u hj=>?_⟩⟩
 rw [Nat.zero_add]
 exact (cell_of_row _ _ j _ _ _ (za6 _ _)).trans (by simpa using hj)
theorem zi6 {w:World} {B g cap:Nat} {e:TypeId} {s n:Nat} {xs:List Value} (h:w.ownsRow B e s (.slice (some ⟨g,0,none⟩) n cap) n xs):n≤cap∧cap≤maxLen:=by
 rcases h.2 with ⟨e1,_⟩ | ⟨g',cap',cur,e1,h1,h2,h3,h4,h5,h6⟩
 ·cases e1
 ·injection e1 with e2 e3 e4
  subst e4
  exact ⟨h3,h4⟩
def mkOf (k:Nat):List Value:=if k=0 then [.int .i64 (-7),.int .i64 0,.string ⟨#[]⟩,.int .i64 0,.int .i64 0,.int .i64 0] else if k=1 then [.string ⟨#[114,111,111,109]⟩] else if k=2 then [.string ⟨#[]⟩,.int .i64 (-7)] else [.int .i64 (-7)]
def cpV (ns:List Nd) (l:Ls) (g d:Nat→Nat) (k:Nat):Value:=.slice (some ⟨g k,0,none⟩) (nOf ns.length l k) (d k)
structure CpIs (w:World) (B:Nat) (g d:Nat→Nat) (ns:List Nd) (l:Ls):Prop where
 row:∀ k,k<6→w.ownsRow (B+2) (TY k) (SZ k) (.slice (some ⟨g k,0,none⟩) (nOf ns.length l k+1) (d k)) (nOf ns.length l k+1) (xOf ns ns.length l k++mkOf k)
 up:∀ j k,j<k→k<6→g j<g k
theorem zE9 (ns:List Nd) (l:Ls) (k:Nat) (hk:k<6):(xOf ns ns.length l k).length=nOf ns.length l k*SZ k:=by
 rcases (show k=0∨k=1∨k=2∨k=3∨k=4∨k=5 by omega) with rfl | rfl | rfl | rfl | rfl | rfl
 ·have e:xOf ns ns.length l 0=ndL ns:=by unfold xOf;rw [if_pos rfl,List.take_length];rfl
  rw [e];exact zm3 ns
 ·simp [xOf,nOf,SZ]
 ·exact zE2 l.ar
 ·simp [xOf,nOf,SZ]
 ·simp [xOf,nOf,SZ]
 ·simp [xOf,nOf,SZ]
theorem CpIs.pr {w:World} {B:Nat} {g d:Nat→Nat} {ns:List Nd} {l:Ls} (h:CpIs w B g d ns l):PrIs w B (cpV ns l g d) ns l:=fun k hk =>
 za7 (zV5 (h.row k hk) (zE9 ns l k hk) (Nat.le_succ _)) (Nat.le_add_right _ _)
set_option maxRecDepth 100000 in
set_option maxHeartbeats 4000000 in
theorem zM3 (v0 v1 v2 v3 v4 v5:Value) (ns:List Nd) (l:Ls) (w:World) (h:ProgIs w v0 v1 v2 v3 v4 v5 ns l) (hb:ns.length*56≤140737488351232∧l.sc.length*16≤140737488351232∧l.ar.length*24≤140737488351232∧l.sy.length*8≤140737488351232∧l.si.length*8≤140737488351232∧l.so.length*8≤140737488351232) :
  Calls Tryz.prog 6 #[.agg #[v0,v1,v2,v3,v4,v5]] w fun e w'=>∃ g d:Nat→Nat,e=.returned (.agg #[cpV ns l g d 0,cpV ns l g d 1,cpV ns l g d 2,cpV ns l g d 3,cpV ns l g d 4,cpV ns l g d 5])∧CpIs w' w.heap.size g d ns l∧Ok w w':=by
 have HP:Hid (PL6 w v0 v1 v2 v3 v4 v5 ns l):=h.pl6
 obtain ⟨n0,hn0⟩:∃ x,x=ns.length:=⟨_,rfl⟩
 obtain ⟨x0,hx0⟩:∃ x:List Value,x=(ndL ns):=⟨_,rfl⟩
 obtain ⟨n1,hn1⟩:∃ x,x=l.sc.length:=⟨_,rfl⟩
 obtain ⟨x1,hx1⟩:∃ x:List Value,x=(l.sc.map fun s=>Value.string s):=⟨_,rfl⟩
 obtain ⟨n2,hn2⟩:∃ x,x=l.ar.length:=⟨_,rfl⟩
 obtain ⟨x2,hx2⟩:∃ x:List Value,x=(l.ar.flatMap fun a=>[Value.string a.1,Value.int IntKind.i64 a.2]):=⟨_,rfl⟩
 obtain ⟨n3,hn3⟩:∃ x,x=l.sy.length:=⟨_,rfl⟩
 obtain ⟨x3,hx3⟩:∃ x:List Value,x=(l.sy.map fun s=>Value.int IntKind.i64 s):=⟨_,rfl⟩
 obtain ⟨n4,hn4⟩:∃ x,x=l.si.length:=⟨_,rfl⟩
 obtain ⟨x4,hx4⟩:∃ x:List Value,x=(l.si.map fun s=>Value.int IntKind.i64 s):=⟨_,rfl⟩
 obtain ⟨n5,hn5⟩:∃ x,x=l.so.length:=⟨_,rfl⟩
 obtain ⟨x5,hx5⟩:∃ x:List Value,x=(l.so.map fun s=>Value.int IntKind.i64 s):=⟨_,rfl⟩
 have HEQ:Hid (n0=ns.length∧x0=(ndL ns)∧n1=l.sc.length∧x1=(l.sc.map fun s=>Value.string s)∧n2=l.ar.length∧x2=(l.ar.flatMap fun a=>[Value.string a.1,Value.int IntKind.i64 a.2])∧n3=l.sy.length∧x3=(l.sy.map fun s=>Value.int IntKind.i64 s)∧n4=l.si.length∧x4=(l.si.map fun s=>Value.int IntKind.i64 s)∧n5=l.so.length∧x5=(l.so.map fun s=>Value.int IntKind.i64 s)):=⟨hn0,hx0,hn1,hx1,hn2,hx2,hn3,hx3,hn4,hx4,hn5,hx5⟩
 have HN:Hid (n0*56≤140737488351232∧n1*16≤140737488351232∧n2*24≤140737488351232∧n3*8≤140737488351232∧n4*8≤140737488351232∧n5*8≤140737488351232):=by unfold Hid;rw [hn0,hn1,hn2,hn3,hn4,hn5];exact hb
 obtain ⟨_,ao0,cp0,rfl,_⟩:=h.nodes
 obtain ⟨_,ao1,cp1,rfl,_⟩:=h.lists.sc
 obtain ⟨_,ao2,cp2,rfl,_⟩:=h.lists.ar
 obtain ⟨_,ao3,cp3,rfl,_⟩:=h.lists.sy
 obtain ⟨_,ao4,cp4,rfl,_⟩:=h.lists.si
 obtain ⟨_,ao5,cp5,rfl,_⟩:=h.lists.so
 have HSL0:Hid (SL w 6 (.slice ao0 n0 cp0) n0 x0):=by have:=HP.out.nd;rw [←hn0,←hx0] at this;exact this
 have HXL0:Hid (x0.length=n0*6):=HSL0.out.1
 have HSL1:Hid (SL w 1 (.slice ao1 n1 cp1) n1 x1):=by have:=HP.out.sc;rw [←hn1,←hx1] at this;exact this
 have HXL1:Hid (x1.length=n1*1):=HSL1.out.1
 have HSL2:Hid (SL w 2 (.slice ao2 n2 cp2) n2 x2):=by have:=HP.out.ar;rw [←hn2,←hx2] at this;exact this
 have HXL2:Hid (x2.length=n2*2):=HSL2.out.1
 have HSL3:Hid (SL w 1 (.slice ao3 n3 cp3) n3 x3):=by have:=HP.out.sy;rw [←hn3,←hx3] at this;exact this
 have HXL3:Hid (x3.length=n3*1):=HSL3.out.1
 have HSL4:Hid (SL w 1 (.slice ao4 n4 cp4) n4 x4):=by have:=HP.out.si;rw [←hn4,←hx4] at this;exact this
 have HXL4:Hid (x4.length=n4*1):=HSL4.out.1
 have HSL5:Hid (SL w 1 (.slice ao5 n5 cp5) n5 x5):=by have:=HP.out.so;rw [←hn5,←hx5] at this;exact this
 have HXL5:Hid (x5.length=n5*1):=HSL5.out.1
 rw [←hn0,←hn1,←hn2,←hn3,←hn4,←hn5]
 clear h hb HP hn0 hx0 hn1 hx1 hn2 hx2 hn3 hx3 hn4 hx4 hn5 hx5
 go_enter Tryz.func6,Tryz.ntmps6
 go_wp2_with fail
 go_quiet (fail)
 obtain ⟨gr,hgr⟩:∃ x,x=w.heap.size+1:=⟨_,rfl⟩
 obtain ⟨gp,hgp⟩:∃ x,x=w.heap.size:=⟨_,rfl⟩
 obtain ⟨W0,hW0⟩:∃ x,x=((w.alloc (Obj.cells #[Value.slice ao0 n0 cp0,Value.slice ao1 n1 cp1,Value.slice ao2 n2 cp2,Value.slice ao3 n3 cp3,Value.slice ao4 n4 cp4,Value.slice ao5 n5 cp5] 27)).alloc (Obj.cells #[Value.slice none 0 0,Value.slice none 0 0,Value.slice none 0 0,Value.slice none 0 0,Value.slice none 0 0,Value.slice none 0 0] 27)).drewN nq:=⟨_,rfl⟩
 rw [←hW0,←hgr,←hgp]
 have HK0:Hid (Ok w W0):=by unfold Hid;rw [hW0];exact (((Ok.refl w).alloc _).alloc _).draws _
 have HX0:Hid (Six W0 gp (.slice ao0 n0 cp0) (.slice ao1 n1 cp1) (.slice ao2 n2 cp2) (.slice ao3 n3 cp3) (.slice ao4 n4 cp4) (.slice ao5 n5 cp5)):=by unfold Hid;rw [hW0,hgp];exact ⟨zd3 _ _ _ (by simp) (zd0 _ _ _ (by simp))⟩
 have HR0:Hid (Six W0 gr (.slice none 0 0) (.slice none 0 0) (.slice none 0 0) (.slice none 0 0) (.slice none 0 0) (.slice none 0 0)):=by unfold Hid;rw [hW0,hgr];exact ⟨zd0 _ _ _ (by simp)⟩
 have HGG:Hid (gp=w.heap.size∧gr=w.heap.size+1):=⟨hgp,hgr⟩
 clear hW0 hgr hgp
 have HZ0:Hid (w.heap.size+2≤W0.heap.size∧gp<W0.heap.size):=by have h1:=HR0.out.lt;have h2:=HX0.out.lt;have h3:=HGG.out;unfold Hid;omega
 obtain ⟨z1,c0,c1,c2,c3,c4,c5⟩:=HX0.out.pc
 go_upto_region 3 with (first
  | (at_builtin;refine zb3 rfl _ _ 22 31 6 56 _ rfl Tryz.underlying22 infFN (by rfl) (by decide) (by decide) W0.heap.size (.slice (some ⟨W0.heap.size,0,none⟩) 0 0) 0 [] (by rfl) (zj3 W0 _ 31 6 (Nat.le_refl _)) _ n0 x0 (by rfl) (HSL0.out.below (HK0.out.alloc _)) (by have:=HN.out;omega) (by simp) ?_;intro v' w1 k1 k2;have HA:Hid (w1.ownsRow W0.heap.size 31 6 v' n0 x0∧Ok W0 w1):=⟨by simpa using k1,((Ok.refl W0).alloc _).grown k2 (fun b e=>Nat.le_of_eq (show W0.heap.size=b from Option.some.inj e))⟩;obtain ⟨ba,bc,rfl⟩:=za0 HA.out.1;clear k1 k2)
  | (at_builtin;refine zb3 rfl _ _ 22 31 6 56 _ rfl Tryz.underlying22 infFN (by rfl) (by decide) (by decide) W0.heap.size (.slice ba n0 bc) n0 x0 (by rfl) (World.ownsRow.alloc HA.out.1 _) (.slice (some ⟨w1.heap.size,0,none⟩) 1 1) 1 [.int .i64 (-7),.int .i64 0,.string ⟨#[]⟩,.int .i64 0,.int .i64 0,.int .i64 0] (by rfl) (SL.one _ _ _ (by rfl) (by simp [Value.oneCell'])) (by have:=HN.out;omega) (by have:=HA.out.2.le;simp;omega) ?_;intro v' w2 k1 k2;have hk2:Ok W0 w2:=(HA.out.2.alloc _).grown k2 (fun b e=>(HA.out.1.lt b e).1);have HX:Hid _:=HX0.out.below hk2;obtain ⟨g0,d0,rfl,hg0⟩:=k1.form (by omega);have HC0:Hid (w2.ownsRow W0.heap.size 31 6 (.slice (some ⟨g0,0,none⟩) (n0+1) d0) (n0+1) (x0++[.int .i64 (-7),.int .i64 0,.string ⟨#[]⟩,.int .i64 0,.int .i64 0,.int .i64 0])∧Ok W0 w2∧n0+1≤d0∧d0≤maxLen):=⟨k1,hk2,zi6 k1⟩;have hd0:((n0:Nat):Int)≤(d0:Int):=(by have:=HC0.out.2.2.1;omega);have hd0':n0≤d0:=(by have:=HC0.out.2.2.1;omega);obtain ⟨z1,c0,c1,c2,c3,c4,c5⟩:=HX.out.pc;have wf:=HX.out.warm;clear k1 k2 hk2)
  | fail)
 obtain ⟨W1,hW1⟩:∃ x,x=w2.setCell ⟨gp,0,none⟩ (.slice (some ⟨g0,0,none⟩) n0 d0):=⟨_,rfl⟩
 rw [←hW1]
 have HK1:Hid (Ok w W1):=by unfold Hid;rw [hW1];exact (HK0.out.step HC0.out.2.1).set (p:=⟨gp,0,none⟩) (by have:=HGG.out;show w.heap.size≤gp;omega) _
 have HX1:Hid (Six W1 gp (.slice (some ⟨g0,0,none⟩) n0 d0) (.slice ao1 n1 cp1) (.slice ao2 n2 cp2) (.slice ao3 n3 cp3) (.slice ao4 n4 cp4) (.slice ao5 n5 cp5)):=by unfold Hid;rw [hW1];exact ⟨by have:=heap_setCell_same w2 gp 0 _ _ (.slice (some ⟨g0,0,none⟩) n0 d0) (HX0.out.below HC0.out.2.1).heap;simpa using this⟩
 have HR1:Hid (Six W1 gr (.slice none 0 0) (.slice none 0 0) (.slice none 0 0) (.slice none 0 0) (.slice none 0 0) (.slice none 0 0)):=by unfold Hid;rw [hW1];exact (HR0.out.below HC0.out.2.1).kept (Below.heap_setCell _ _ _ _ (by have:=HGG.out;show gr≠gp;omega))
 have HU0_1:Hid (W1.ownsRow (w.heap.size+2) 31 6 (.slice (some ⟨g0,0,none⟩) (n0+1) d0) (n0+1) (x0++[.int .i64 (-7),.int .i64 0,.string ⟨#[]⟩,.int .i64 0,.int .i64 0,.int .i64 0])):=by unfold Hid;rw [hW1];exact zc2 (za7 HC0.out.1 HZ0.out.1) (by have:=HGG.out;omega) _
 have HZ1:Hid (w.heap.size+2≤W1.heap.size∧g0<W1.heap.size):=by have h1:=HR1.out.lt;have h3:=HGG.out;exact ⟨by omega,(HU0_1.out.lt g0 rfl).2⟩
 clear hW1 HC0 HA HX HX0 HR0  hg0 hd0 hd0' z1 c0 c1 c2 c3 c4 c5 wf
 obtain ⟨z1,c0,c1,c2,c3,c4,c5⟩:=HX1.out.pc
 go_upto_region 4 with (first
  | (at_builtin;refine zb3 rfl _ _ 23 9 1 16 _ rfl Tryz.underlying23 infFS (by rfl) (by decide) (by decide) W1.heap.size (.slice (some ⟨W1.heap.size,0,none⟩) 0 0) 0 [] (by rfl) (zj3 W1 _ 9 1 (Nat.le_refl _)) _ n1 x1 (by rfl) (HSL1.out.below (HK1.out.alloc _)) (by have:=HN.out;omega) (by simp) ?_;intro v' w1 k1 k2;have HA:Hid (w1.ownsRow W1.heap.size 9 1 v' n1 x1∧Ok W1 w1):=⟨by simpa using k1,((Ok.refl W1).alloc _).grown k2 (fun b e=>Nat.le_of_eq (show W1.heap.size=b from Option.some.inj e))⟩;obtain ⟨ba,bc,rfl⟩:=za0 HA.out.1;clear k1 k2)
  | (at_builtin;refine zb3 rfl _ _ 23 9 1 16 _ rfl Tryz.underlying23 infFS (by rfl) (by decide) (by decide) W1.heap.size (.slice ba n1 bc) n1 x1 (by rfl) (World.ownsRow.alloc HA.out.1 _) (.slice (some ⟨w1.heap.size,0,none⟩) 1 1) 1 [.string ⟨#[114,111,111,109]⟩] (by rfl) (SL.one _ _ _ (by rfl) (by simp [Value.oneCell'])) (by have:=HN.out;omega) (by have:=HA.out.2.le;simp;omega) ?_;intro v' w2 k1 k2;have hk2:Ok W1 w2:=(HA.out.2.alloc _).grown k2 (fun b e=>(HA.out.1.lt b e).1);have HX:Hid _:=HX1.out.below hk2;obtain ⟨g1,d1,rfl,hg1⟩:=k1.form (by omega);have HC1:Hid (w2.ownsRow W1.heap.size 9 1 (.slice (some ⟨g1,0,none⟩) (n1+1) d1) (n1+1) (x1++[.string ⟨#[114,111,111,109]⟩])∧Ok W1 w2∧n1+1≤d1∧d1≤maxLen):=⟨k1,hk2,zi6 k1⟩;have hd1:((n1:Nat):Int)≤(d1:Int):=(by have:=HC1.out.2.2.1;omega);have hd1':n1≤d1:=(by have:=HC1.out.2.2.1;omega);obtain ⟨z1,c0,c1,c2,c3,c4,c5⟩:=HX.out.pc;have wf:=HX.out.warm;clear k1 k2 hk2)
  | fail)
 obtain ⟨W2,hW2⟩:∃ x,x=w2.setCell ⟨gp,1,none⟩ (.slice (some ⟨g1,0,none⟩) n1 d1):=⟨_,rfl⟩
 rw [←hW2]
 have HK2:Hid (Ok w W2):=by unfold Hid;rw [hW2];exact (HK1.out.step HC1.out.2.1).set (p:=⟨gp,1,none⟩) (by have:=HGG.out;show w.heap.size≤gp;omega) _
 have HX2:Hid (Six W2 gp (.slice (some ⟨g0,0,none⟩) n0 d0) (.slice (some ⟨g1,0,none⟩) n1 d1) (.slice ao2 n2 cp2) (.slice ao3 n3 cp3) (.slice ao4 n4 cp4) (.slice ao5 n5 cp5)):=by unfold Hid;rw [hW2];exact ⟨by have:=heap_setCell_same w2 gp 1 _ _ (.slice (some ⟨g1,0,none⟩) n1 d1) (HX1.out.below HC1.out.2.1).heap;simpa using this⟩
 have HR2:Hid (Six W2 gr (.slice none 0 0) (.slice none 0 0) (.slice none 0 0) (.slice none 0 0) (.slice none 0 0) (.slice none 0 0)):=by unfold Hid;rw [hW2];exact (HR1.out.below HC1.out.2.1).kept (Below.heap_setCell _ _ _ _ (by have:=HGG.out;show gr≠gp;omega))
 have HU0_2:Hid (W2.ownsRow (w.heap.size+2) 31 6 (.slice (some ⟨g0,0,none⟩) (n0+1) d0) (n0+1) (x0++[.int .i64 (-7),.int .i64 0,.string ⟨#[]⟩,.int .i64 0,.int .i64 0,.int .i64 0])):=by unfold Hid;rw [hW2];exact zc2 (za1 HU0_1.out HC1.out.2.1) (by have:=HGG.out;omega) _
 have HU1_2:Hid (W2.ownsRow (w.heap.size+2) 9 1 (.slice (some ⟨g1,0,none⟩) (n1+1) d1) (n1+1) (x1++[.string ⟨#[114,111,111,109]⟩])):=by unfold Hid;rw [hW2];exact zc2 (za7 HC1.out.1 HZ1.out.1) (by have:=HGG.out;omega) _
 have HZ2:Hid (w.heap.size+2≤W2.heap.size∧g1<W2.heap.size):=by have h1:=HR2.out.lt;have h3:=HGG.out;exact ⟨by omega,(HU1_2.out.lt g1 rfl).2⟩
 have HD1:Hid (g0<g1):=by have h1:=(HC1.out.1.lt g1 rfl).1;have h2:=HZ1.out.2;unfold Hid;omega
 clear hW2 HC1 HA HX HX1 HR1 HU0_1 hg1 hd1 hd1' z1 c0 c1 c2 c3 c4 c5 wf
 obtain ⟨z1,c0,c1,c2,c3,c4,c5⟩:=HX2.out.pc
 go_upto_region 5 with (first
  | (at_builtin;refine zb3 rfl _ _ 24 56 2 24 _ rfl Tryz.underlying24 infFA (by rfl) (by decide) (by decide) W2.heap.size (.slice (some ⟨W2.heap.size,0,none⟩) 0 0) 0 [] (by rfl) (zj3 W2 _ 56 2 (Nat.le_refl _)) _ n2 x2 (by rfl) (HSL2.out.below (HK2.out.alloc _)) (by have:=HN.out;omega) (by simp) ?_;intro v' w1 k1 k2;have HA:Hid (w1.ownsRow W2.heap.size 56 2 v' n2 x2∧Ok W2 w1):=⟨by simpa using k1,((Ok.refl W2).alloc _).grown k2 (fun b e=>Nat.le_of_eq (show W2.heap.size=b from Option.some.inj e))⟩;obtain ⟨ba,bc,rfl⟩:=za0 HA.out.1;clear k1 k2)
  | (at_builtin;refine zb3 rfl _ _ 24 56 2 24 _ rfl Tryz.underlying24 infFA (by rfl) (by decide) (by decide) W2.heap.size (.slice ba n2 bc) n2 x2 (by rfl) (World.ownsRow.alloc HA.out.1 _) (.slice (some ⟨w1.heap.size,0,none⟩) 1 1) 1 [.string ⟨#[]⟩,.int .i64 (-7)] (by rfl) (SL.one _ _ _ (by rfl) (by simp [Value.oneCell'])) (by have:=HN.out;omega) (by have:=HA.out.2.le;simp;omega) ?_;intro v' w2 k1 k2;have hk2:Ok W2 w2:=(HA.out.2.alloc _).grown k2 (fun b e=>(HA.out.1.lt b e).1);have HX:Hid _:=HX2.out.below hk2;obtain ⟨g2,d2,rfl,hg2⟩:=k1.form (by omega);have HC2:Hid (w2.ownsRow W2.heap.size 56 2 (.slice (some ⟨g2,0,none⟩) (n2+1) d2) (n2+1) (x2++[.string ⟨#[]⟩,.int .i64 (-7)])∧Ok W2 w2∧n2+1≤d2∧d2≤maxLen):=⟨k1,hk2,zi6 k1⟩;have hd2:((n2:Nat):Int)≤(d2:Int):=(by have:=HC2.out.2.2.1;omega);have hd2':n2≤d2:=(by have:=HC2.out.2.2.1;omega);obtain ⟨z1,c0,c1,c2,c3,c4,c5⟩:=HX.out.pc;have wf:=HX.out.warm;clear k1 k2 hk2)
  | fail)
 obtain ⟨W3,hW3⟩:∃ x,x=w2.setCell ⟨gp,2,none⟩ (.slice (some ⟨g2,0,none⟩) n2 d2):=⟨_,rfl⟩
 rw [←hW3]
 have HK3:Hid (Ok w W3):=by unfold Hid;rw [hW3];exact (HK2.out.step HC2.out.2.1).set (p:=⟨gp,2,none⟩) (by have:=HGG.out;show w.heap.size≤gp;omega) _
 have HX3:Hid (Six W3 gp (.slice (some ⟨g0,0,none⟩) n0 d0) (.slice (some ⟨g1,0,none⟩) n1 d1) (.slice (some ⟨g2,0,none⟩) n2 d2) (.slice ao3 n3 cp3) (.slice ao4 n4 cp4) (.slice ao5 n5 cp5)):=by unfold Hid;rw [hW3];exact ⟨by have:=heap_setCell_same w2 gp 2 _ _ (.slice (some ⟨g2,0,none⟩) n2 d2) (HX2.out.below HC2.out.2.1).heap;simpa using this⟩
 have HR3:Hid (Six W3 gr (.slice none 0 0) (.slice none 0 0) (.slice none 0 0) (.slice none 0 0) (.slice none 0 0) (.slice none 0 0)):=by unfold Hid;rw [hW3];exact (HR2.out.below HC2.out.2.1).kept (Below.heap_setCell _ _ _ _ (by have:=HGG.out;show gr≠gp;omega))
 have HU0_3:Hid (W3.ownsRow (w.heap.size+2) 31 6 (.slice (some ⟨g0,0,none⟩) (n0+1) d0) (n0+1) (x0++[.int .i64 (-7),.int .i64 0,.string ⟨#[]⟩,.int .i64 0,.int .i64 0,.int .i64 0])):=by unfold Hid;rw [hW3];exact zc2 (za1 HU0_2.out HC2.out.2.1) (by have:=HGG.out;omega) _
 have HU1_3:Hid (W3.ownsRow (w.heap.size+2) 9 1 (.slice (some ⟨g1,0,none⟩) (n1+1) d1) (n1+1) (x1++[.string ⟨#[114,111,111,109]⟩])):=by unfold Hid;rw [hW3];exact zc2 (za1 HU1_2.out HC2.out.2.1) (by have:=HGG.out;omega) _
 have HU2_3:Hid (W3.ownsRow (w.heap.size+2) 56 2 (.slice (some ⟨g2,0,none⟩) (n2+1) d2) (n2+1) (x2++[.string ⟨#[]⟩,.int .i64 (-7)])):=by unfold Hid;rw [hW3];exact zc2 (za7 HC2.out.1 HZ2.out.1) (by have:=HGG.out;omega) _
 have HZ3:Hid (w.heap.size+2≤W3.heap.size∧g2<W3.heap.size):=by have h1:=HR3.out.lt;have h3:=HGG.out;exact ⟨by omega,(HU2_3.out.lt g2 rfl).2⟩
 have HD2:Hid (g1<g2):=by have h1:=(HC2.out.1.lt g2 rfl).1;have h2:=HZ2.out.2;unfold Hid;omega
 clear hW3 HC2 HA HX HX2 HR2 HU0_2 HU1_2 hg2 hd2 hd2' z1 c0 c1 c2 c3 c4 c5 wf
 obtain ⟨z1,c0,c1,c2,c3,c4,c5⟩:=HX3.out.pc
 go_upto_region 6 with (first
  | (at_builtin;refine zb3 rfl _ _ 25 3 1 8 _ rfl Tryz.underlying25 infFI (by rfl) (by decide) (by decide) W3.heap.size (.slice (some ⟨W3.heap.size,0,none⟩) 0 0) 0 [] (by rfl) (zj3 W3 _ 3 1 (Nat.le_refl _)) _ n3 x3 (by rfl) (HSL3.out.below (HK3.out.alloc _)) (by have:=HN.out;omega) (by simp) ?_;intro v' w1 k1 k2;have HA:Hid (w1.ownsRow W3.heap.size 3 1 v' n3 x3∧Ok W3 w1):=⟨by simpa using k1,((Ok.refl W3).alloc _).grown k2 (fun b e=>Nat.le_of_eq (show W3.heap.size=b from Option.some.inj e))⟩;obtain ⟨ba,bc,rfl⟩:=za0 HA.out.1;clear k1 k2)
  | (at_builtin;refine zb3 rfl _ _ 25 3 1 8 _ rfl Tryz.underlying25 infFI (by rfl) (by decide) (by decide) W3.heap.size (.slice ba n3 bc) n3 x3 (by rfl) (World.ownsRow.alloc HA.out.1 _) (.slice (some ⟨w1.heap.size,0,none⟩) 1 1) 1 [.int .i64 (-7)] (by rfl) (SL.one _ _ _ (by rfl) (by simp [Value.oneCell'])) (by have:=HN.out;omega) (by have:=HA.out.2.le;simp;omega) ?_;intro v' w2 k1 k2;have hk2:Ok W3 w2:=(HA.out.2.alloc _).grown k2 (fun b e=>(HA.out.1.lt b e).1);have HX:Hid _:=HX3.out.below hk2;obtain ⟨g3,d3,rfl,hg3⟩:=k1.form (by omega);have HC3:Hid (w2.ownsRow W3.heap.size 3 1 (.slice (some ⟨g3,0,none⟩) (n3+1) d3) (n3+1) (x3++[.int .i64 (-7)])∧Ok W3 w2∧n3+1≤d3∧d3≤maxLen):=⟨k1,hk2,zi6 k1⟩;have hd3:((n3:Nat):Int)≤(d3:Int):=(by have:=HC3.out.2.2.1;omega);have hd3':n3≤d3:=(by have:=HC3.out.2.2.1;omega);obtain ⟨z1,c0,c1,c2,c3,c4,c5⟩:=HX.out.pc;have wf:=HX.out.warm;clear k1 k2 hk2)
  | fail)
 obtain ⟨W4,hW4⟩:∃ x,x=w2.setCell ⟨gp,3,none⟩ (.slice (some ⟨g3,0,none⟩) n3 d3):=⟨_,rfl⟩
 rw [←hW4]
 have HK4:Hid (Ok w W4):=by unfold Hid;rw [hW4];exact (HK3.out.step HC3.out.2.1).set (p:=⟨gp,3,none⟩) (by have:=HGG.out;show w.heap.size≤gp;omega) _
 have HX4:Hid (Six W4 gp (.slice (some ⟨g0,0,none⟩) n0 d0) (.slice (some ⟨g1,0,none⟩) n1 d1) (.slice (some ⟨g2,0,none⟩) n2 d2) (.slice (some ⟨g3,0,none⟩) n3 d3) (.slice ao4 n4 cp4) (.slice ao5 n5 cp5)):=by unfold Hid;rw [hW4];exact ⟨by have:=heap_setCell_same w2 gp 3 _ _ (.slice (some ⟨g3,0,none⟩) n3 d3) (HX3.out.below HC3.out.2.1).heap;simpa using this⟩
 have HR4:Hid (Six W4 gr (.slice none 0 0) (.slice none 0 0) (.slice none 0 0) (.slice none 0 0) (.slice none 0 0) (.slice none 0 0)):=by unfold Hid;rw [hW4];exact (HR3.out.below HC3.out.2.1).kept (Below.heap_setCell _ _ _ _ (by have:=HGG.out;show gr≠gp;omega))
 have HU0_4:Hid (W4.ownsRow (w.heap.size+2) 31 6 (.slice (some ⟨g0,0,none⟩) (n0+1) d0) (n0+1) (x0++[.int .i64 (-7),.int .i64 0,.string ⟨#[]⟩,.int .i64 0,.int .i64 0,.int .i64 0])):=by unfold Hid;rw [hW4];exact zc2 (za1 HU0_3.out HC3.out.2.1) (by have:=HGG.out;omega) _
 have HU1_4:Hid (W4.ownsRow (w.heap.size+2) 9 1 (.slice (some ⟨g1,0,none⟩) (n1+1) d1) (n1+1) (x1++[.string ⟨#[114,111,111,109]⟩])):=by unfold Hid;rw [hW4];exact zc2 (za1 HU1_3.out HC3.out.2.1) (by have:=HGG.out;omega) _
 have HU2_4:Hid (W4.ownsRow (w.heap.size+2) 56 2 (.slice (some ⟨g2,0,none⟩) (n2+1) d2) (n2+1) (x2++[.string ⟨#[]⟩,.int .i64 (-7)])):=by unfold Hid;rw [hW4];exact zc2 (za1 HU2_3.out HC3.out.2.1) (by have:=HGG.out;omega) _
 have HU3_4:Hid (W4.ownsRow (w.heap.size+2) 3 1 (.slice (some ⟨g3,0,none⟩) (n3+1) d3) (n3+1) (x3++[.int .i64 (-7)])):=by unfold Hid;rw [hW4];exact zc2 (za7 HC3.out.1 HZ3.out.1) (by have:=HGG.out;omega) _
 have HZ4:Hid (w.heap.size+2≤W4.heap.size∧g3<W4.heap.size):=by have h1:=HR4.out.lt;have h3:=HGG.out;exact ⟨by omega,(HU3_4.out.lt g3 rfl).2⟩
 have HD3:Hid (g2<g3):=by have h1:=(HC3.out.1.lt g3 rfl).1;have h2:=HZ3.out.2;unfold Hid;omega
 clear hW4 HC3 HA HX HX3 HR3 HU0_3 HU1_3 HU2_3 hg3 hd3 hd3' z1 c0 c1 c2 c3 c4 c5 wf
 obtain ⟨z1,c0,c1,c2,c3,c4,c5⟩:=HX4.out.pc
 go_upto_region 7 with (first
  | (at_builtin;refine zb3 rfl _ _ 25 3 1 8 _ rfl Tryz.underlying25 infFI (by rfl) (by decide) (by decide) W4.heap.size (.slice (some ⟨W4.heap.size,0,none⟩) 0 0) 0 [] (by rfl) (zj3 W4 _ 3 1 (Nat.le_refl _)) _ n4 x4 (by rfl) (HSL4.out.below (HK4.out.alloc _)) (by have:=HN.out;omega) (by simp) ?_;intro v' w1 k1 k2;have HA:Hid (w1.ownsRow W4.heap.size 3 1 v' n4 x4∧Ok W4 w1):=⟨by simpa using k1,((Ok.refl W4).alloc _).grown k2 (fun b e=>Nat.le_of_eq (show W4.heap.size=b from Option.some.inj e))⟩;obtain ⟨ba,bc,rfl⟩:=za0 HA.out.1;clear k1 k2)
  | (at_builtin;refine zb3 rfl _ _ 25 3 1 8 _ rfl Tryz.underlying25 infFI (by rfl) (by decide) (by decide) W4.heap.size (.slice ba n4 bc) n4 x4 (by rfl) (World.ownsRow.alloc HA.out.1 _) (.slice (some ⟨w1.heap.size,0,none⟩) 1 1) 1 [.int .i64 (-7)] (by rfl) (SL.one _ _ _ (by rfl) (by simp [Value.oneCell'])) (by have:=HN.out;omega) (by have:=HA.out.2.le;simp;omega) ?_;intro v' w2 k1 k2;have hk2:Ok W4 w2:=(HA.out.2.alloc _).grown k2 (fun b e=>(HA.out.1.lt b e).1);have HX:Hid _:=HX4.out.below hk2;obtain ⟨g4,d4,rfl,hg4⟩:=k1.form (by omega);have HC4:Hid (w2.ownsRow W4.heap.size 3 1 (.slice (some ⟨g4,0,none⟩) (n4+1) d4) (n4+1) (x4++[.int .i64 (-7)])∧Ok W4 w2∧n4+1≤d4∧d4≤maxLen):=⟨k1,hk2,zi6 k1⟩;have hd4:((n4:Nat):Int)≤(d4:Int):=(by have:=HC4.out.2.2.1;omega);have hd4':n4≤d4:=(by have:=HC4.out.2.2.1;omega);obtain ⟨z1,c0,c1,c2,c3,c4,c5⟩:=HX.out.pc;have wf:=HX.out.warm;clear k1 k2 hk2)
  | fail)
 obtain ⟨W5,hW5⟩:∃ x,x=w2.setCell ⟨gp,4,none⟩ (.slice (some ⟨g4,0,none⟩) n4 d4):=⟨_,rfl⟩
 rw [←hW5]
 have HK5:Hid (Ok w W5):=by unfold Hid;rw [hW5];exact (HK4.out.step HC4.out.2.1).set (p:=⟨gp,4,none⟩) (by have:=HGG.out;show w.heap.size≤gp;omega) _
 have HX5:Hid (Six W5 gp (.slice (some ⟨g0,0,none⟩) n0 d0) (.slice (some ⟨g1,0,none⟩) n1 d1) (.slice (some ⟨g2,0,none⟩) n2 d2) (.slice (some ⟨g3,0,none⟩) n3 d3) (.slice (some ⟨g4,0,none⟩) n4 d4) (.slice ao5 n5 cp5)):=by unfold Hid;rw [hW5];exact ⟨by have:=heap_setCell_same w2 gp 4 _ _ (.slice (some ⟨g4,0,none⟩) n4 d4) (HX4.out.below HC4.out.2.1).heap;simpa using this⟩
 have HR5:Hid (Six W5 gr (.slice none 0 0) (.slice none 0 0) (.slice none 0 0) (.slice none 0 0) (.slice none 0 0) (.slice none 0 0)):=by unfold Hid;rw [hW5];exact (HR4.out.below HC4.out.2.1).kept (Below.heap_setCell _ _ _ _ (by have:=HGG.out;show gr≠gp;omega))
 have HU0_5:Hid (W5.ownsRow (w.heap.size+2) 31 6 (.slice (some ⟨g0,0,none⟩) (n0+1) d0) (n0+1) (x0++[.int .i64 (-7),.int .i64 0,.string ⟨#[]⟩,.int .i64 0,.int .i64 0,.int .i64 0])):=by unfold Hid;rw [hW5];exact zc2 (za1 HU0_4.out HC4.out.2.1) (by have:=HGG.out;omega) _
 have HU1_5:Hid (W5.ownsRow (w.heap.size+2) 9 1 (.slice (some ⟨g1,0,none⟩) (n1+1) d1) (n1+1) (x1++[.string ⟨#[114,111,111,109]⟩])):=by unfold Hid;rw [hW5];exact zc2 (za1 HU1_4.out HC4.out.2.1) (by have:=HGG.out;omega) _
 have HU2_5:Hid (W5.ownsRow (w.heap.size+2) 56 2 (.slice (some ⟨g2,0,none⟩) (n2+1) d2) (n2+1) (x2++[.string ⟨#[]⟩,.int .i64 (-7)])):=by unfold Hid;rw [hW5];exact zc2 (za1 HU2_4.out HC4.out.2.1) (by have:=HGG.out;omega) _
 have HU3_5:Hid (W5.ownsRow (w.heap.size+2) 3 1 (.slice (some ⟨g3,0,none⟩) (n3+1) d3) (n3+1) (x3++[.int .i64 (-7)])):=by unfold Hid;rw [hW5];exact zc2 (za1 HU3_4.out HC4.out.2.1) (by have:=HGG.out;omega) _
 have HU4_5:Hid (W5.ownsRow (w.heap.size+2) 3 1 (.slice (some ⟨g4,0,none⟩) (n4+1) d4) (n4+1) (x4++[.int .i64 (-7)])):=by unfold Hid;rw [hW5];exact zc2 (za7 HC4.out.1 HZ4.out.1) (by have:=HGG.out;omega) _
 have HZ5:Hid (w.heap.size+2≤W5.heap.size∧g4<W5.heap.size):=by have h1:=HR5.out.lt;have h3:=HGG.out;exact ⟨by omega,(HU4_5.out.lt g4 rfl).2⟩
 have HD4:Hid (g3<g4):=by have h1:=(HC4.out.1.lt g4 rfl).1;have h2:=HZ4.out.2;unfold Hid;omega
 clear hW5 HC4 HA HX HX4 HR4 HU0_4 HU1_4 HU2_4 HU3_4 hg4 hd4 hd4' z1 c0 c1 c2 c3 c4 c5 wf
 obtain ⟨z1,c0,c1,c2,c3,c4,c5⟩:=HX5.out.pc
 go_upto_region 8 with (first
  | (at_builtin;refine zb3 rfl _ _ 25 3 1 8 _ rfl Tryz.underlying25 infFI (by rfl) (by decide) (by decide) W5.heap.size (.slice (some ⟨W5.heap.size,0,none⟩) 0 0) 0 [] (by rfl) (zj3 W5 _ 3 1 (Nat.le_refl _)) _ n5 x5 (by rfl) (HSL5.out.below (HK5.out.alloc _)) (by have:=HN.out;omega) (by simp) ?_;intro v' w1 k1 k2;have HA:Hid (w1.ownsRow W5.heap.size 3 1 v' n5 x5∧Ok W5 w1):=⟨by simpa using k1,((Ok.refl W5).alloc _).grown k2 (fun b e=>Nat.le_of_eq (show W5.heap.size=b from Option.some.inj e))⟩;obtain ⟨ba,bc,rfl⟩:=za0 HA.out.1;clear k1 k2)
  | (at_builtin;refine zb3 rfl _ _ 25 3 1 8 _ rfl Tryz.underlying25 infFI (by rfl) (by decide) (by decide) W5.heap.size (.slice ba n5 bc) n5 x5 (by rfl) (World.ownsRow.alloc HA.out.1 _) (.slice (some ⟨w1.heap.size,0,none⟩) 1 1) 1 [.int .i64 (-7)] (by rfl) (SL.one _ _ _ (by rfl) (by simp [Value.oneCell'])) (by have:=HN.out;omega) (by have:=HA.out.2.le;simp;omega) ?_;intro v' w2 k1 k2;have hk2:Ok W5 w2:=(HA.out.2.alloc _).grown k2 (fun b e=>(HA.out.1.lt b e).1);have HX:Hid _:=HX5.out.below hk2;obtain ⟨g5,d5,rfl,hg5⟩:=k1.form (by omega);have HC5:Hid (w2.ownsRow W5.heap.size 3 1 (.slice (some ⟨g5,0,none⟩) (n5+1) d5) (n5+1) (x5++[.int .i64 (-7)])∧Ok W5 w2∧n5+1≤d5∧d5≤maxLen):=⟨k1,hk2,zi6 k1⟩;have hd5:((n5:Nat):Int)≤(d5:Int):=(by have:=HC5.out.2.2.1;omega);have hd5':n5≤d5:=(by have:=HC5.out.2.2.1;omega);obtain ⟨z1,c0,c1,c2,c3,c4,c5⟩:=HX.out.pc;have wf:=HX.out.warm;clear k1 k2 hk2)
  | fail)
 obtain ⟨W6,hW6⟩:∃ x,x=w2.setCell ⟨gp,5,none⟩ (.slice (some ⟨g5,0,none⟩) n5 d5):=⟨_,rfl⟩
 rw [←hW6]
 have HK6:Hid (Ok w W6):=by unfold Hid;rw [hW6];exact (HK5.out.step HC5.out.2.1).set (p:=⟨gp,5,none⟩) (by have:=HGG.out;show w.heap.size≤gp;omega) _
 have HX6:Hid (Six W6 gp (.slice (some ⟨g0,0,none⟩) n0 d0) (.slice (some ⟨g1,0,none⟩) n1 d1) (.slice (some ⟨g2,0,none⟩) n2 d2) (.slice (some ⟨g3,0,none⟩) n3 d3) (.slice (some ⟨g4,0,none⟩) n4 d4) (.slice (some ⟨g5,0,none⟩) n5 d5)):=by unfold Hid;rw [hW6];exact ⟨by have:=heap_setCell_same w2 gp 5 _ _ (.slice (some ⟨g5,0,none⟩) n5 d5) (HX5.out.below HC5.out.2.1).heap;simpa using this⟩
 have HR6:Hid (Six W6 gr (.slice none 0 0) (.slice none 0 0) (.slice none 0 0) (.slice none 0 0) (.slice none 0 0) (.slice none 0 0)):=by unfold Hid;rw [hW6];exact (HR5.out.below HC5.out.2.1).kept (Below.heap_setCell _ _ _ _ (by have:=HGG.out;show gr≠gp;omega))
 have HU0_6:Hid (W6.ownsRow (w.heap.size+2) 31 6 (.slice (some ⟨g0,0,none⟩) (n0+1) d0) (n0+1) (x0++[.int .i64 (-7),.int .i64 0,.string ⟨#[]⟩,.int .i64 0,.int .i64 0,.int .i64 0])):=by unfold Hid;rw [hW6];exact zc2 (za1 HU0_5.out HC5.out.2.1) (by have:=HGG.out;omega) _
 have HU1_6:Hid (W6.ownsRow (w.heap.size+2) 9 1 (.slice (some ⟨g1,0,none⟩) (n1+1) d1) (n1+1) (x1++[.string ⟨#[114,111,111,109]⟩])):=by unfold Hid;rw [hW6];exact zc2 (za1 HU1_5.out HC5.out.2.1) (by have:=HGG.out;omega) _
 have HU2_6:Hid (W6.ownsRow (w.heap.size+2) 56 2 (.slice (some ⟨g2,0,none⟩) (n2+1) d2) (n2+1) (x2++[.string ⟨#[]⟩,.int .i64 (-7)])):=by unfold Hid;rw [hW6];exact zc2 (za1 HU2_5.out HC5.out.2.1) (by have:=HGG.out;omega) _
 have HU3_6:Hid (W6.ownsRow (w.heap.size+2) 3 1 (.slice (some ⟨g3,0,none⟩) (n3+1) d3) (n3+1) (x3++[.int .i64 (-7)])):=by unfold Hid;rw [hW6];exact zc2 (za1 HU3_5.out HC5.out.2.1) (by have:=HGG.out;omega) _
 have HU4_6:Hid (W6.ownsRow (w.heap.size+2) 3 1 (.slice (some ⟨g4,0,none⟩) (n4+1) d4) (n4+1) (x4++[.int .i64 (-7)])):=by unfold Hid;rw [hW6];exact zc2 (za1 HU4_5.out HC5.out.2.1) (by have:=HGG.out;omega) _
 have HU5_6:Hid (W6.ownsRow (w.heap.size+2) 3 1 (.slice (some ⟨g5,0,none⟩) (n5+1) d5) (n5+1) (x5++[.int .i64 (-7)])):=by unfold Hid;rw [hW6];exact zc2 (za7 HC5.out.1 HZ5.out.1) (by have:=HGG.out;omega) _
 have HZ6:Hid (w.heap.size+2≤W6.heap.size∧g5<W6.heap.size):=by have h1:=HR6.out.lt;have h3:=HGG.out;exact ⟨by omega,(HU5_6.out.lt g5 rfl).2⟩
 have HD5:Hid (g4<g5):=by have h1:=(HC5.out.1.lt g5 rfl).1;have h2:=HZ5.out.2;unfold Hid;omega
 clear hW6 HC5 HA HX HX5 HR5 HU0_5 HU1_5 HU2_5 HU3_5 HU4_5 hg5 hd5 hd5' z1 c0 c1 c2 c3 c4 c5 wf
 obtain ⟨z1,c0,c1,c2,c3,c4,c5⟩:=HX6.out.pc
 obtain ⟨y1,r0,r1,r2,r3,r4,r5⟩:=HR6.out.pc
 have wf:=HR6.out.warm
 go_wp2_with fail
 try simp only [Exit.inBlock,Exit.then]
 refine bodyPost_ret (results_cell_row rfl _ _ gr 27 _ (0,0) _ rfl (zd4 HR6.out.heap _ _ _ _ _ _) Tryz.underlying27 rfl Tryz.info27) rfl ?_
 refine ⟨fun k=>if k=0 then g0 else if k=1 then g1 else if k=2 then g2 else if k=3 then g3 else if k=4 then g4 else g5,fun k=>if k=0 then d0 else if k=1 then d1 else if k=2 then d2 else if k=3 then d3 else if k=4 then d4 else d5,?_,⟨?_,?_⟩,zc9 HK6.out (by have:=HGG.out;omega) _ _ _ _ _ _⟩
 ·obtain ⟨rfl,rfl,rfl,rfl,rfl,rfl,rfl,rfl,rfl,rfl,rfl,rfl⟩:=HEQ.out
  rfl
 ·obtain ⟨rfl,rfl,rfl,rfl,rfl,rfl,rfl,rfl,rfl,rfl,rfl,rfl⟩:=HEQ.out
  intro k hk
  have hlt:gr<w.heap.size+2:=by have:=HGG.out;omega
  rcases (show k=0∨k=1∨k=2∨k=3∨k=4∨k=5 by omega) with rfl | rfl | rfl | rfl | rfl | rfl
  ·have e:xOf ns ns.length l 0=ndL ns:=by unfold xOf;rw [if_pos rfl,List.take_length];rfl
   rw [e]
   exact zj9 HU0_6.out hlt _ _ _ _ _ _
  ·exact zj9 HU1_6.out hlt _ _ _ _ _ _
  ·exact zj9 HU2_6.out hlt _ _ _ _ _ _
  ·exact zj9 HU3_6.out hlt _ _ _ _ _ _
  ·exact zj9 HU4_6.out hlt _ _ _ _ _ _
  ·exact zj9 HU5_6.out hlt _ _ _ _ _ _
 ·intro j k hjk hk
  have h1:=HD1.out
  have h2:=HD2.out
  have h3:=HD3.out
  have h4:=HD4.out
  have h5:=HD5.out
  rcases (show j=0∨j=1∨j=2∨j=3∨j=4 by omega) with rfl | rfl | rfl | rfl | rfl<;>rcases (show k=1∨k=2∨k=3∨k=4∨k=5 by omega) with rfl | rfl | rfl | rfl | rfl<;>first | (exfalso;omega) | (simp;omega)
end Go.Proofs.YtgobgdljckamkaaGreatDoor
