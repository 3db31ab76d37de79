import Derived.Test.YtgobgdljckamkaaGreatDoorKWc
import Derived.Test.YtgobgdljckamkaaGreatDoorKWd
set_option linter.unusedVariables false
set_option linter.unusedSimpArgs false
set_option linter.unnecessarySimpa false
namespace Go.Proofs.YtgobgdljckamkaaGreatDoor
section
open Go.RowKit
theorem MkS.same {w w':World} {k:Nat} {a:Nat→Option Addr} {n:Nat→Nat} (h:MkS w k a n) (sz:w.heap.size≤w'.heap.size) (hb:∀ j,j<7→∀ b o y,a j=some ⟨b,o,y⟩→w'.heap[b]?=w.heap[b]?):MkS w' k a n :=
 ⟨h.le,fun j hj i hi=>by
  obtain ⟨b,o,e,hl,hc⟩:=h.at' j hj i hi
  refine ⟨b,o,e,Nat.lt_of_lt_of_le hl sz,fun t x ht=>?_⟩
  rw [World.cell?_of_block (w:=w) (a:=⟨b,_,none⟩) (hb j hj b o none e)]
  exact hc t x ht⟩
theorem MkS.of_rows {w:World} {B k:Nat} {u:Nat→Value} {a:Nat→Option Addr} {m c:Nat→Nat} (hu:∀ j,j<7→u j=.slice (a j) (m j) (c j)) (hl:∀ j,j<7→m j≤100000) (h:∀ j,j<7→w.ownsRow B (TY7 j) (SZ7 j) (u j) (m j) (rep (m j) (wdM k j))):MkS w k a m :=
 ⟨hl,fun j hj i hi=>by
  have hr:=h j hj
  obtain ⟨g,cp,e,_⟩:=hr.form (by omega)
  have e2:a j=some ⟨g,0,none⟩:=by
   have:=(hu j hj).symm.trans e
   injection this
  rw [e] at hr
  refine ⟨g,0,e2,(hr.lt g rfl).2,fun t x ht=>?_⟩
  have:=hr.cells (g:=g) rfl _ _ (zW3 (n:=m j) (i:=i) hi ht)
  rw [zc0] at this
  rw [Nat.add_assoc]
  exact this⟩
structure AP (w0 wr:World) (B gb:Nat) (a:Nat→Nat→Option Addr) (n c:Nat→Nat→Nat) (i:Nat) (u:Nat→Nat→Value):Prop where
 rows:∀ k,i≤k→k<4→∀ j,j<7→wr.ownsRow B (TY7 j) (SZ7 j) (slG a n c k j) (n k j) (rep (n k j) (wdM k j))
 olds:∀ k,k<i→MkS wr k (a k) (n k)
 news:∀ k,k<i→∀ j,j<7→wr.ownsRow B (TY7 j) (SZ7 j) (u k j) (n k j+20) (rep (n k j+20) (wdM k j))
 loc:∀ k,k<i→∀ j,j<7→(u k j).ownBlock=(slG a n c k j).ownBlock∨∃ b,(u k j).ownBlock=some b∧w0.heap.size≤b
 bel:Below B w0 wr
 gs:wr.heap[gb]?=w0.heap[gb]?
structure AP0 (w0:World) (B gb:Nat) (a:Nat→Nat→Option Addr) (n c:Nat→Nat→Nat):Prop where
 ds:Dist a n c
 lt:∀ k,k<4→∀ j,j<7→∀ b,(slG a n c k j).ownBlock=some b→b<w0.heap.size∧b≠gb
 z0:∀ k,k<4→∀ j,j<7→∀ b o y,a k j=some ⟨b,o,y⟩→o=0
 gb:gb<w0.heap.size
 le:B≤w0.heap.size
 hn:∀ k,k<4→∀ j,j<7→n k j≤99980
theorem AP.keep {w0 wr w':World} {B gb i:Nat} {a:Nat→Nat→Option Addr} {n c:Nat→Nat→Nat} {u:Nat→Nat→Value} (h:AP w0 wr B gb a n c i u) (h0:AP0 w0 B gb a n c) (hi:i≤4) (bel:Below B w0 w') (sz:wr.heap.size≤w'.heap.size) (hg:w'.heap[gb]?=wr.heap[gb]?)
  (k1:∀ k,k<4→∀ j,j<7→∀ b,b<wr.heap.size→(slG a n c k j).ownBlock=some b→w'.heap[b]?=wr.heap[b]?) (k2:∀ k,k<i→∀ j,j<7→∀ b,(u k j).ownBlock=some b→w'.heap[b]?=wr.heap[b]?):AP w0 w' B gb a n c i u:=by
 have lt':∀ k,k<4→∀ j,j<7→∀ b,(slG a n c k j).ownBlock=some b→b<wr.heap.size:=fun k hk j hj b hb=>Nat.lt_of_lt_of_le (h0.lt k hk j hj b hb).1 h.bel.size
 exact ⟨fun k hk hk4 j hj=>zd2 (h.rows k hk hk4 j hj) fun b hb=>k1 k hk4 j hj b (lt' k hk4 j hj b hb) hb,
  fun k hk=>(h.olds k hk).same sz fun j hj b o y e=>by
   have hb:(slG a n c k j).ownBlock=some b:=by unfold slG;rw [e];rfl
   exact k1 k (by omega) j hj b (lt' k (by omega) j hj b hb) hb,
  fun k hk j hj=>zd2 (h.news k hk j hj) fun b hb=>k2 k hk j hj b hb,h.loc,bel,hg.trans h.gs⟩
theorem AP.ok {w0 wr w':World} {B gb i:Nat} {a:Nat→Nat→Option Addr} {n c:Nat→Nat→Nat} {u:Nat→Nat→Value} (h:AP w0 wr B gb a n c i u) (h0:AP0 w0 B gb a n c) (hi:i≤4) (hk:Ok wr w'):AP w0 w' B gb a n c i u :=
 h.keep h0 hi (h.bel.trans (Below.mono hk (Nat.le_trans h0.le h.bel.size))) hk.le (Below.block hk _ (Nat.lt_of_lt_of_le h0.gb h.bel.size)) (fun k hk4 j hj b hb _=>Below.block hk b hb) (fun k hki j hj b hb=>Below.block hk b ((h.news k hki j hj).lt b hb).2)
theorem AP.start {w0 wr:World} {B gb i:Nat} {a:Nat→Nat→Option Addr} {n c:Nat→Nat→Nat} {u:Nat→Nat→Value} (h:AP w0 wr B gb a n c i u) (h0:AP0 w0 B gb a n c) (hi:i<4):GR wr wr B i (a i) (n i) (c i) (slO (a i) (n i) (c i)) (n i):=by
 have d0:∀ j j',j<7→j'<7→j≠j'→∀ b,(slO (a i) (n i) (c i) j).ownBlock=some b→(slO (a i) (n i) (c i) j').ownBlock≠some b:=fun j j' hj hj' hne b hb=>h0.ds i j i j' hi hj hi hj' (fun e=>hne e.2) b hb
 exact ⟨fun j hj=>h.rows i (Nat.le_refl _) hi j hj,fun j _=>Nat.le_refl _,fun j _=>Or.inl rfl,d0,d0,fun j hj b hb=>Nat.lt_of_lt_of_le (h0.lt i hi j hj b hb).1 h.bel.size,h0.z0 i hi,MkS.of_rows (u:=slO (a i) (n i) (c i)) (c:=c i) (fun j _=>rfl) (fun j hj=>by have:=h0.hn i hi j hj;omega) (fun j hj=>h.rows i (Nat.le_refl _) hi j hj),Below.refl _ _,Nat.le_trans h0.le h.bel.size,fun b _ _=>rfl⟩
theorem AP.next {w0 wr w':World} {B gb i:Nat} {a:Nat→Nat→Option Addr} {n c:Nat→Nat→Nat} {u:Nat→Nat→Value} {u':Nat→Value} {m:Nat→Nat} (h:AP w0 wr B gb a n c i u) (h0:AP0 w0 B gb a n c) (hi:i<4) (hG:GR wr w' B i (a i) (n i) (c i) u' m) (hm:∀ j,j<7→m j=n i j+20):AP w0 w' B gb a n c (i+1) (fun k=>if k=i then u' else u k):=by
 have lt':∀ k,k<4→∀ j,j<7→∀ b,(slG a n c k j).ownBlock=some b→b<wr.heap.size:=fun k hk j hj b hb=>Nat.lt_of_lt_of_le (h0.lt k hk j hj b hb).1 h.bel.size
 have oth:∀ k,k<4→k≠i→∀ j,j<7→∀ b,(slG a n c k j).ownBlock=some b→w'.heap[b]?=wr.heap[b]?:=fun k hk hne j hj b hb=>hG.fr b (lt' k hk j hj b hb) fun j' hj'=>h0.ds k j i j' hk hj hi hj' (fun e=>hne e.1) b hb
 refine ⟨fun k hk hk4 j hj=>zd2 (h.rows k (by omega) hk4 j hj) fun b hb=>oth k hk4 (by omega) j hj b hb,fun k hk=>?_,fun k hk j hj=>?_,fun k hk j hj=>?_,h.bel.trans hG.bel,(hG.fr gb (Nat.lt_of_lt_of_le h0.gb h.bel.size) fun j hj e=>(h0.lt i hi j hj gb e).2 rfl).trans h.gs⟩
 ·by_cases e:k=i
  ·subst e;exact hG.old
  ·exact (h.olds k (by omega)).same hG.bel.size fun j hj b o y e2=>oth k (by omega) e j hj b (by unfold slG;rw [e2];rfl)
 ·by_cases e:k=i
  ·subst e
   simp only [if_true]
   have:=hG.row j hj
   rw [hm j hj] at this
   exact this
  ·simp only [if_neg e]
   have hr:=h.news k (by omega) j hj
   refine zd2 hr fun b hb=>hG.fr b (hr.lt b hb).2 fun j' hj' e3=>?_
   rcases h.loc k (by omega) j hj with l | ⟨b',l,l2⟩
   ·exact h0.ds k j i j' (by omega) hj hi hj' (fun e4=>e e4.1) b (by rw [←l];exact hb) e3
   ·have h5:b'=b:=Option.some.inj (l.symm.trans hb)
    have:=(h0.lt i hi j' hj' b e3).1
    omega
 ·by_cases e:k=i
  ·subst e
   simp only [if_true]
   rcases hG.loc j hj with l | ⟨b,l,l2⟩
   ·exact Or.inl l
   ·exact Or.inr ⟨b,l,Nat.le_trans h.bel.size l2⟩
  ·simp only [if_neg e];exact h.loc k (by omega) j hj
theorem yk8 {w:World} {B g j:Nat} {v:Value} {s n:Nat} {xs:List Value} {cs:Array Value} (hj:j<7) (h:w.ownsRow B (TY7 j) s v n xs) (hb:w.heap[g]?=some (.cells cs 42 (0,0))):v.ownBlock≠some g:=fun e=>by
 rcases h.2 with ⟨e1,_⟩ | ⟨g',cap',cur,e1,h1,h2,_⟩
 ·rw [e1] at e;cases e
 ·rw [e1] at e
  have:g'=g:=Option.some.inj e
  subst this
  rw [hb] at h2
  injection h2 with h2
  injection h2 with _ h3
  exact zI4 j hj h3.symm
theorem AP.app {w0 wr w':World} {B B' gb i l:Nat} {a:Nat→Nat→Option Addr} {n c:Nat→Nat→Nat} {u:Nat→Nat→Value} {v:Value} {xs:List Value} (h:AP w0 wr B gb a n c i u) (h0:AP0 w0 B gb a n c) (hi:i≤4) (hB:w0.heap.size≤B') (hv:wr.ownsRow B' 42 9 v l xs) (hg:wr.grownBy w' v.ownBlock):AP w0 w' B gb a n c i u:=by
 have key:∀ g,v.ownBlock=some g→w0.heap.size≤g∧∃ cs,wr.heap[g]?=some (.cells cs 42 (0,0)):=fun g e=>by
  rcases hv.2 with ⟨e1,_⟩ | ⟨g',cap',cur,e1,h1,h2,_⟩
  ·rw [e1] at e;cases e
  ·rw [e1] at e
   have:g'=g:=Option.some.inj e
   subst this
   exact ⟨by omega,_,h2⟩
 have lt0:∀ b,b<w0.heap.size→some b≠v.ownBlock:=fun b hb e=>by have:=(key b e.symm).1;omega
 have hsz:=h.bel.size
 refine h.keep h0 hi ?_ hg.size (hg.block gb (by have:=h0.gb;omega) (lt0 gb h0.gb)) (fun k hk j hj b hb e=>hg.block b hb (lt0 b (h0.lt k hk j hj b e).1)) (fun k hk j hj b e=>?_)
 ·exact ⟨hg.os.trans h.bel.os,hg.tape.trans h.bel.tape,hg.output.trans h.bel.output,Nat.le_trans hsz hg.size,fun b hb=>(hg.block b (by have:=h0.le;omega) (lt0 b (by have:=h0.le;omega))).trans (h.bel.block b hb)⟩
 ·refine hg.block b ((h.news k hk j hj).lt b e).2 fun e2=>?_
  obtain ⟨_,cs,e3⟩:=key b e2.symm
  exact yk8 hj (h.news k hk j hj) e3 e
end
section
open Go.RowKit
theorem zm0 {w:World} {B:Nat} {e:TypeId} {size:Nat} {v:Value} {n:Nat} {xs:List Value} (h:w.ownsRow B e size v n xs):∀ g,v.ownBlock=some g→∃ c fz,w.heap[g]?=some (.cells c e fz):=by
 intro g hg
 rcases h.2 with ⟨rfl,_⟩ | ⟨g',cap,cur,rfl,_,hgg,_⟩
 ·cases hg
 ·have e1:g'=g:=Option.some.inj hg
  subst e1
  exact ⟨_,_,hgg⟩
theorem yd4 {w w':World} {B B':Nat} {e:TypeId} {s n:Nat} {v:Value} {xs:List Value} {gv:Value} {k:Nat} {ys:List Value} (h:w.ownsRow B e s v n xs) (he:e≠42) (hg:w.ownsRow B' 42 9 gv k ys) (hw:w.grownBy w' gv.ownBlock):w'.ownsRow B e s v n xs:=by
 refine zd2 h fun b hb=>hw.block b (h.lt b hb).2 (fun e1=>?_)
 obtain ⟨c1,f1,k1⟩:=zm0 h b hb
 obtain ⟨c2,f2,k2⟩:=zm0 hg b e1.symm
 rw [k1] at k2
 injection k2 with k2
 injection k2 with _ k3 _
 exact he k3
theorem infGr:(Tryz.prog.info? 42).map (fun i=>(i.zero,i.size,i.bytes))=some (some (.agg #[.slice none 0 0,.slice none 0 0,.slice none 0 0,.slice none 0 0,.slice none 0 0,.slice none 0 0,.int .i64 0,.int .i64 0,.slice none 0 0]),9,184):=by kernel_rfl
theorem zp6 {w:World} {ops:Array Oper} {rest:List Oper} {op:Oper} {a:Act} {Q:Exit→Act→World→Prop} (hgd:op.guard=none) (s x:Operand)
  (ho:op.op=.call { callee:=.builtin .append,args:=#[s,x],argTypes:=#[39,39] })
  (base:Nat) (sv:Value) (k:Nat) (ys:List Value) (hs:a.eval s=sv) (hown:w.ownsRow base 42 9 sv k ys) (g:Nat) (xs:List Value) (hx:a.eval x=.slice (some ⟨g,0,none⟩) 1 1) (hg:w.heap[g]?=some (.cells xs.toArray 42 (0,0))) (hl:xs.length=1*9) (h1:∀ u∈xs,u.oneCell'=true)
  (hb:k≤1000) (hbase:base≤w.heap.size)
  (h:∀ v' w',w'.ownsRow base 42 9 v' (k+1) (ys++xs)→w.grownBy w' sv.ownBlock→(v'.ownBlock=sv.ownBlock∨v'.ownBlock=some w.heap.size)→wpList Tryz.prog ops Q rest (a.put op.dst v') w'):wpList Tryz.prog ops Q (op::rest) a w:=by
 obtain ⟨i,hi,hz,hsi,hby⟩:=ze5 infGr
 refine wpList_append_own_at w hgd s x 39 ho base 42 i _ 9 184 Tryz.underlying39 hi hz hsi hby rfl (by decide) sv k ys hs hown ⟨g,0,none⟩ 1 1 xs hx hl (fun j u hj=>?_) h1 (by unfold maxLen;omega) (by omega) hbase ?_
 ·rw [zc0,Nat.zero_add]
  exact (cell_of_row _ _ j _ _ _ hg).trans (by simpa using hj)
 ·intro v' w' k1 k2 k3 k4
  exact h v' w' k1 k2 k4
end
section
open Go.RowKit
def moL (u:Nat→Nat→Value) (x y:Nat→Int) (k:Nat):List Value:=(List.range k).flatMap fun i=>(nineU (u i) (x i) (y i)).toList
theorem yd5 (u:Nat→Nat→Value) (u':Nat→Value) (x y:Nat→Int) (k:Nat):moL (fun i=>if i=k then u' else u i) x y (k+1)=moL u x y k++(nineU u' (x k) (y k)).toList:=by
 unfold moL
 rw [List.range_succ,List.flatMap_append]
 congr 1
 ·rw [List.flatMap_def,List.flatMap_def]
  congr 1
  apply List.map_congr_left
  intro i hi
  have:=List.mem_range.1 hi
  show (nineU (if i=k then u' else u i) _ _).toList=_
  rw [if_neg (by omega)]
 ·simp
theorem zI8 (u:Nat→Nat→Value) (x y:Nat→Int) (k:Nat):moL u x y (k+1)=moL u x y k++(nineU (u k) (x k) (y k)).toList:=by unfold moL;rw [List.range_succ,List.flatMap_append];simp
theorem zW7 (u:Nat→Nat→Value) (x y:Nat→Int):∀ k,(moL u x y k).length=k*9
 | 0=>rfl
 | k+1=>by rw [zI8,List.length_append,zW7 u x y k,show (nineU (u k) (x k) (y k)).toList.length=9 from rfl];omega
theorem zF5 (u:Nat→Nat→Value) (x y:Nat→Int):∀ (K k q:Nat) (v:Value),k<K→q<9→(nineU (u k) (x k) (y k)).toList[q]?=some v→(moL u x y K)[k*9+q]?=some v
 | 0,k,q,v,h,_,_=>by omega
 | K+1,k,q,v,h,hq,e=>by
  have hl:=zW7 u x y K
  rw [zI8]
  by_cases hk:k=K
  ·subst hk
   rw [List.getElem?_append_right (by omega),hl,show k*9+q-k*9=q by omega]
   exact e
  ·rw [List.getElem?_append_left (by omega)]
   exact zF5 u x y K k q v (by omega) hq e
theorem AP.of_marked {w wm:World} {B gb:Nat} {a:Nat→Nat→Option Addr} {n c:Nat→Nat→Nat} {X:Nat→Nat→List Value} (h:MI a n c w wm B gb (Yf n X 28)) (hd:Dist a n c) (hl:gb<w.heap.size) (hne:∀ k,k<4→∀ j,j<7→∀ b,(slG a n c k j).ownBlock=some b→b≠gb) (hn:∀ k,k<4→∀ j,j<7→n k j≤99980) (hB:B≤w.heap.size) (u:Nat→Nat→Value):AP0 wm B gb a n c∧AP wm wm B gb a n c 0 u:=by
 have hs:=h.bel.size
 refine ⟨⟨hd,fun k hk j hj b hb=>⟨((h.rows k hk j hj).lt b hb).2,hne k hk j hj b hb⟩,fun k hk j hj b o y e=>?_,by omega,by omega,hn⟩,⟨fun k _ hk j hj=>?_,fun k hk=>absurd hk (by omega),fun k hk=>absurd hk (by omega),fun k hk=>absurd hk (by omega),Below.refl _ _,rfl⟩⟩
 ·rcases (h.rows k hk j hj).2 with ⟨e1,_⟩ | ⟨g',cap',cur,e1,_⟩
  ·unfold slG at e1;rw [e] at e1;cases e1
  ·unfold slG at e1;rw [e] at e1
   injection e1 with e1
   injection e1 with e1
   injection e1 with _ e2
 ·have:=h.rows k hk j hj
  rw [show Yf n X 28 k j=rep (n k j) (wdM k j) by unfold Yf;rw [if_pos (by omega)]] at this
  exact this
set_option maxRecDepth 100000 in
set_option maxHeartbeats 8000000 in
theorem yk9 (gb cap B:Nat) (a:Nat→Nat→Option Addr) (n c:Nat→Nat→Nat) (x y:Nat→Int) (X:Nat→Nat→List Value) (w:World) (hr:RowsY a n c w B X) (hd:Dist a n c) (hg:∀ k,k<4→∀ q,q<9→w.cell? ⟨gb,k*9+q,none⟩=some (gcV a n c x y k q)) (hl:gb<w.heap.size)
  (hne:∀ k,k<4→∀ j,j<7→∀ b,(slG a n c k j).ownBlock=some b→b≠gb) (hn:∀ k,k<4→∀ j,j<7→n k j≤99980) (hB:B≤w.heap.size) :
  Calls Tryz.prog 13 #[.slice (some ⟨gb,0,none⟩) 4 cap] w fun e w'=>e=.returned (.bool true)∧Below B w w':=by
 have HM:=hid (zM6 gb cap B a n c x y X w hr hd hg hl hne (fun k hk j hj=>Nat.le_trans (hn k hk j hj) (by decide)) hB)
 have HD:Hid (Dist a n c∧gb<w.heap.size∧(∀ k,k<4→∀ j,j<7→∀ b,(slG a n c k j).ownBlock=some b→b≠gb)∧(∀ k,k<4→∀ j,j<7→n k j≤99980)∧B≤w.heap.size):=⟨hd,hl,hne,hn,hB⟩
 have HG:=hid hg
 clear hr hd hg hl hne hn hB
 go_enter Tryz.func13,Tryz.ntmps13
 go_wp2_with fail
 refine HM.out.mono ?_
 rintro e wm ⟨rfl,hmi⟩
 obtain ⟨ha0,hap⟩:=AP.of_marked hmi HD.out.1 HD.out.2.1 HD.out.2.2.1 HD.out.2.2.2.1 HD.out.2.2.2.2 (fun _ _=>undef)
 have HA0:=hid ha0
 have HAP0:=hid hap
 have HBW:=hid hmi.bel
 have HGC:Hid (∀ W:World,W.heap[gb]?=wm.heap[gb]?→∀ k,k<4→∀ q,q<9→W.cell? ⟨gb,k*9+q,none⟩=some (gcV a n c x y k q)):=fun W e k hk q hq=>(World.cell?_of_block (w:=w) (a:=⟨gb,_,none⟩) (e.trans hmi.gs)).trans (HG.out k hk q hq)
 clear hmi ha0 hap HM HD HG
 go_wp2_with fail
 go_loopw [3,10] (fun t3 t10 wr=>∃ (k:Nat) (mv:Value) (u:Nat→Nat→Value),t3=mv∧t10=.int .i64 (k:Nat)∧k≤4∧Hid (AP wm wr B gb a n c k u)∧Hid (wr.ownsRow wm.heap.size 42 9 mv k (moL u x y k))) (fun _ t10 _=>4-(intOf t10).toNat)
 case atStart=>exact ⟨0,_,_,rfl,rfl,by omega,HAP0,World.ownsRow_nil _ _ _ _⟩
 case round =>
  obtain ⟨k,mv,u,rfl,rfl,hk4,HAP,HMV⟩:=hrel
  obtain ⟨vo,vc,rfl⟩:=za0 HMV.out
  by_cases hlt:k<4
  ·have hlt':(k:Int)<4:=by omega
   have hkw:IntKind.i64.wrap ((k:Int)+1)=((k+1:Nat):Int):=zb0 (by omega)
   have HLT:=hid hlt
   have r0:wr.cell? ⟨gb,k*9,none⟩=some (.slice (a k 0) (n k 0) (c k 0)):=HGC.out wr HAP.out.gs k HLT.out 0 (by decide)
   have r1:wr.cell? ⟨gb,k*9+1,none⟩=some (.slice (a k 1) (n k 1) (c k 1)):=HGC.out wr HAP.out.gs k HLT.out 1 (by decide)
   have r2:wr.cell? ⟨gb,k*9+2,none⟩=some (.slice (a k 2) (n k 2) (c k 2)):=HGC.out wr HAP.out.gs k HLT.out 2 (by decide)
   have r3:wr.cell? ⟨gb,k*9+3,none⟩=some (.slice (a k 3) (n k 3) (c k 3)):=HGC.out wr HAP.out.gs k HLT.out 3 (by decide)
   have r4:wr.cell? ⟨gb,k*9+4,none⟩=some (.slice (a k 4) (n k 4) (c k 4)):=HGC.out wr HAP.out.gs k HLT.out 4 (by decide)
   have r5:wr.cell? ⟨gb,k*9+5,none⟩=some (.slice (a k 5) (n k 5) (c k 5)):=HGC.out wr HAP.out.gs k HLT.out 5 (by decide)
   have r6:wr.cell? ⟨gb,k*9+6,none⟩=some (.int .i64 (x k)):=HGC.out wr HAP.out.gs k HLT.out 6 (by decide)
   have r7:wr.cell? ⟨gb,k*9+7,none⟩=some (.int .i64 (y k)):=HGC.out wr HAP.out.gs k HLT.out 7 (by decide)
   have r8:wr.cell? ⟨gb,k*9+8,none⟩=some (.slice (a k 6) (n k 6) (c k 6)):=HGC.out wr HAP.out.gs k HLT.out 8 (by decide)
   have lb:gb<wr.heap.size:=Nat.lt_of_lt_of_le HA0.out.gb HAP.out.bel.size
   go_wp2_with fail
   refine (zW5 k B HLT.out (a k) (n k) (c k) (x k) (y k) wr (HAP.out.start HA0.out HLT.out)).mono ?_
   rintro e wg ⟨u',m',rfl,hm,hG⟩
   have HAN:=hid (HAP.out.next HA0.out HLT.out hG hm)
   have HMG:=hid (zd2 HMV.out fun b hb=>hG.fr b (HMV.out.lt b hb).2 fun j hj e=>by have h1:=(HA0.out.lt k HLT.out j hj b e).1;have h2:=(HMV.out.lt b hb).1;omega)
   obtain ⟨x0,y0,e0⟩:=za0 (hG.row 0 (by decide))
   obtain ⟨m0,hm0⟩:∃ z,z=m' 0:=⟨_,rfl⟩
   rw [←hm0] at e0
   obtain ⟨x1,y1,e1⟩:=za0 (hG.row 1 (by decide))
   obtain ⟨m1,hm1⟩:∃ z,z=m' 1:=⟨_,rfl⟩
   rw [←hm1] at e1
   obtain ⟨x2,y2,e2⟩:=za0 (hG.row 2 (by decide))
   obtain ⟨m2,hm2⟩:∃ z,z=m' 2:=⟨_,rfl⟩
   rw [←hm2] at e2
   obtain ⟨x3,y3,e3⟩:=za0 (hG.row 3 (by decide))
   obtain ⟨m3,hm3⟩:∃ z,z=m' 3:=⟨_,rfl⟩
   rw [←hm3] at e3
   obtain ⟨x4,y4,e4⟩:=za0 (hG.row 4 (by decide))
   obtain ⟨m4,hm4⟩:∃ z,z=m' 4:=⟨_,rfl⟩
   rw [←hm4] at e4
   obtain ⟨x5,y5,e5⟩:=za0 (hG.row 5 (by decide))
   obtain ⟨m5,hm5⟩:∃ z,z=m' 5:=⟨_,rfl⟩
   rw [←hm5] at e5
   obtain ⟨x6,y6,e6⟩:=za0 (hG.row 6 (by decide))
   obtain ⟨m6,hm6⟩:∃ z,z=m' 6:=⟨_,rfl⟩
   rw [←hm6] at e6
   have HN9:Hid ((nineU u' (x k) (y k)).toList=[Value.slice x0 m0 y0,Value.slice x1 m1 y1,Value.slice x2 m2 y2,Value.slice x3 m3 y3,Value.slice x4 m4 y4,Value.slice x5 m5 y5,Value.int IntKind.i64 (x k),Value.int IntKind.i64 (y k),Value.slice x6 m6 y6]):=by unfold Hid nineU;rw [e0,e1,e2,e3,e4,e5,e6]
   have hn9:nineU u' (x k) (y k)=#[Value.slice x0 m0 y0,Value.slice x1 m1 y1,Value.slice x2 m2 y2,Value.slice x3 m3 y3,Value.slice x4 m4 y4,Value.slice x5 m5 y5,Value.int IntKind.i64 (x k),Value.int IntKind.i64 (y k),Value.slice x6 m6 y6]:=by unfold nineU;rw [e0,e1,e2,e3,e4,e5,e6]
   rw [hn9]
   have HZG:=hid HAN.out.bel.size
   clear hn9 hm hG HAP HMV lb e0 hm0 e1 hm1 e2 hm2 e3 hm3 e4 hm4 e5 hm5 e6 hm6 r0 r1 r2 r3 r4 r5 r6 r7 r8
   go_wp2_with (first | (at_builtin;refine zp6 rfl _ _ (by rfl) wm.heap.size (.slice vo k vc) k (moL u x y k) (by rfl) (World.ownsRow.alloc HMG.out _) wg.heap.size [Value.slice x0 m0 y0,Value.slice x1 m1 y1,Value.slice x2 m2 y2,Value.slice x3 m3 y3,Value.slice x4 m4 y4,Value.slice x5 m5 y5,Value.int IntKind.i64 (x k),Value.int IntKind.i64 (y k),Value.slice x6 m6 y6] (by rfl) (by exact za6 _ _) (by rfl) (by simp [Value.oneCell']) (by have:=HLT.out;omega) (by have:=HZG.out;simp;omega) ?_;intro v9 w9 k1 k2 k4;have HAW:Hid (AP wm w9 B gb a n c (k+1) (fun i=>if i=k then u' else u i)):=(HAN.out.ok HA0.out (by have:=HLT.out;omega) ((Ok.refl _).alloc _)).app HA0.out (by have:=HLT.out;omega) (Nat.le_refl _) (World.ownsRow.alloc HMG.out _) k2;have HMW:Hid (w9.ownsRow wm.heap.size 42 9 v9 (k+1) (moL (fun i=>if i=k then u' else u i) x y (k+1))):=(by unfold Hid;rw [yd5,HN9.out];exact k1);obtain ⟨vo',vc',rfl⟩:=za0 k1;clear k1 k2 k4) | fail)
   go_roundw
   case rel=>exact ⟨k+1,_,_,rfl,rfl,by omega,HAW,HMW⟩
   case measure=>simp only [intOf,Int.toNat_natCast];omega
  ·have hk:k=4:=by omega
   subst hk
   go_wp2_with fail
   simp only [show ((4:Nat):Int)=4 from rfl]
   obtain ⟨we,hwe⟩:∃ z,z=wr:=⟨_,rfl⟩
   rw [←hwe]
   rw [←hwe] at HAP HMV
   obtain ⟨mg,mc,hmv,_⟩:=HMV.out.form (by decide)
   rw [hmv] at HMV ⊢
   clear hwe hmv
   go_loopw [25] (fun t wr=>∃ k:Nat,t=.int .i64 (k:Nat)∧k≤4∧Hid (Ok we wr)) (fun t _=>4-(intOf t).toNat)
   case atStart=>exact ⟨0,rfl,by omega,Ok.refl _⟩
   case round =>
    obtain ⟨k,rfl,hk4,HK⟩:=hrel
    by_cases hlt:k<4
    ·have hlt':(k:Int)<4:=by omega
     have hkw:IntKind.i64.wrap ((k:Int)+1)=((k+1:Nat):Int):=zb0 (by omega)
     have HLT:=hid hlt
     have r0:wr.cell? ⟨gb,k*9,none⟩=some (.slice (a k 0) (n k 0) (c k 0)):=HGC.out wr ((Below.block HK.out gb (Nat.lt_of_lt_of_le HA0.out.gb HAP.out.bel.size)).trans HAP.out.gs) k HLT.out 0 (by decide)
     have r1:wr.cell? ⟨gb,k*9+1,none⟩=some (.slice (a k 1) (n k 1) (c k 1)):=HGC.out wr ((Below.block HK.out gb (Nat.lt_of_lt_of_le HA0.out.gb HAP.out.bel.size)).trans HAP.out.gs) k HLT.out 1 (by decide)
     have r2:wr.cell? ⟨gb,k*9+2,none⟩=some (.slice (a k 2) (n k 2) (c k 2)):=HGC.out wr ((Below.block HK.out gb (Nat.lt_of_lt_of_le HA0.out.gb HAP.out.bel.size)).trans HAP.out.gs) k HLT.out 2 (by decide)
     have r3:wr.cell? ⟨gb,k*9+3,none⟩=some (.slice (a k 3) (n k 3) (c k 3)):=HGC.out wr ((Below.block HK.out gb (Nat.lt_of_lt_of_le HA0.out.gb HAP.out.bel.size)).trans HAP.out.gs) k HLT.out 3 (by decide)
     have r4:wr.cell? ⟨gb,k*9+4,none⟩=some (.slice (a k 4) (n k 4) (c k 4)):=HGC.out wr ((Below.block HK.out gb (Nat.lt_of_lt_of_le HA0.out.gb HAP.out.bel.size)).trans HAP.out.gs) k HLT.out 4 (by decide)
     have r5:wr.cell? ⟨gb,k*9+5,none⟩=some (.slice (a k 5) (n k 5) (c k 5)):=HGC.out wr ((Below.block HK.out gb (Nat.lt_of_lt_of_le HA0.out.gb HAP.out.bel.size)).trans HAP.out.gs) k HLT.out 5 (by decide)
     have r6:wr.cell? ⟨gb,k*9+6,none⟩=some (.int .i64 (x k)):=HGC.out wr ((Below.block HK.out gb (Nat.lt_of_lt_of_le HA0.out.gb HAP.out.bel.size)).trans HAP.out.gs) k HLT.out 6 (by decide)
     have r7:wr.cell? ⟨gb,k*9+7,none⟩=some (.int .i64 (y k)):=HGC.out wr ((Below.block HK.out gb (Nat.lt_of_lt_of_le HA0.out.gb HAP.out.bel.size)).trans HAP.out.gs) k HLT.out 7 (by decide)
     have r8:wr.cell? ⟨gb,k*9+8,none⟩=some (.slice (a k 6) (n k 6) (c k 6)):=HGC.out wr ((Below.block HK.out gb (Nat.lt_of_lt_of_le HA0.out.gb HAP.out.bel.size)).trans HAP.out.gs) k HLT.out 8 (by decide)
     have lb:gb<wr.heap.size:=Nat.lt_of_lt_of_le HA0.out.gb (Nat.le_trans HAP.out.bel.size HK.out.le)
     go_wp2_with fail
     refine (zu4 k HLT.out (a k) (n k) (c k) (x k) (y k) wr ((HAP.out.olds k HLT.out).below HK.out)).mono ?_
     rintro e wf ⟨rfl,hkf⟩
     have HKF:=hid (HK.out.step hkf)
     obtain ⟨x0,y0,e0⟩:=za0 (HAP.out.news k HLT.out 0 (by decide))
     obtain ⟨x1,y1,e1⟩:=za0 (HAP.out.news k HLT.out 1 (by decide))
     obtain ⟨x2,y2,e2⟩:=za0 (HAP.out.news k HLT.out 2 (by decide))
     obtain ⟨x3,y3,e3⟩:=za0 (HAP.out.news k HLT.out 3 (by decide))
     obtain ⟨x4,y4,e4⟩:=za0 (HAP.out.news k HLT.out 4 (by decide))
     obtain ⟨x5,y5,e5⟩:=za0 (HAP.out.news k HLT.out 5 (by decide))
     obtain ⟨x6,y6,e6⟩:=za0 (HAP.out.news k HLT.out 6 (by decide))
     obtain ⟨ax,hax⟩:∃ z:Nat→Option Addr,z=fun j=>if j=0 then x0 else if j=1 then x1 else if j=2 then x2 else if j=3 then x3 else if j=4 then x4 else if j=5 then x5 else x6:=⟨_,rfl⟩
     obtain ⟨ay,hay⟩:∃ z:Nat→Nat,z=fun j=>if j=0 then y0 else if j=1 then y1 else if j=2 then y2 else if j=3 then y3 else if j=4 then y4 else if j=5 then y5 else y6:=⟨_,rfl⟩
     have HUU:Hid (∀ j,j<7→u k j=.slice (ax j) (n k j+20) (ay j)):=by
      intro j hj
      subst hax hay
      obtain rfl | rfl | rfl | rfl | rfl | rfl | rfl:j=0∨j=1∨j=2∨j=3∨j=4∨j=5∨j=6:=by omega
      ·exact e0
      ·exact e1
      ·exact e2
      ·exact e3
      ·exact e4
      ·exact e5
      ·exact e6
     have HMC:Hid (∀ q v,q<9→(nineU (u k) (x k) (y k)).toList[q]?=some v→wf.cell? ⟨mg,k*9+q,none⟩=some v):=fun q v hq e=>by
      have:=(za1 HMV.out HKF.out).cells (g:=mg) rfl _ _ (zF5 u x y 4 k q v HLT.out hq e)
      rwa [zc0,Nat.zero_add] at this
     have s0:wf.cell? ⟨mg,k*9,none⟩=some (.slice (ax 0) (n k 0+20) (ay 0)):=HMC.out 0 _ (by decide) (by rw [←HUU.out 0 (by decide)];rfl)
     have s1:wf.cell? ⟨mg,k*9+1,none⟩=some (.slice (ax 1) (n k 1+20) (ay 1)):=HMC.out 1 _ (by decide) (by rw [←HUU.out 1 (by decide)];rfl)
     have s2:wf.cell? ⟨mg,k*9+2,none⟩=some (.slice (ax 2) (n k 2+20) (ay 2)):=HMC.out 2 _ (by decide) (by rw [←HUU.out 2 (by decide)];rfl)
     have s3:wf.cell? ⟨mg,k*9+3,none⟩=some (.slice (ax 3) (n k 3+20) (ay 3)):=HMC.out 3 _ (by decide) (by rw [←HUU.out 3 (by decide)];rfl)
     have s4:wf.cell? ⟨mg,k*9+4,none⟩=some (.slice (ax 4) (n k 4+20) (ay 4)):=HMC.out 4 _ (by decide) (by rw [←HUU.out 4 (by decide)];rfl)
     have s5:wf.cell? ⟨mg,k*9+5,none⟩=some (.slice (ax 5) (n k 5+20) (ay 5)):=HMC.out 5 _ (by decide) (by rw [←HUU.out 5 (by decide)];rfl)
     have s6:wf.cell? ⟨mg,k*9+6,none⟩=some (.int .i64 (x k)):=HMC.out 6 _ (by decide) (rfl)
     have s7:wf.cell? ⟨mg,k*9+7,none⟩=some (.int .i64 (y k)):=HMC.out 7 _ (by decide) (rfl)
     have s8:wf.cell? ⟨mg,k*9+8,none⟩=some (.slice (ax 6) (n k 6+20) (ay 6)):=HMC.out 8 _ (by decide) (by rw [←HUU.out 6 (by decide)];rfl)
     have lm:mg<wf.heap.size:=((za1 HMV.out HKF.out).lt mg rfl).2
     clear lb hkf hax hay r0 r1 r2 r3 r4 r5 r6 r7 r8 e0 e1 e2 e3 e4 e5 e6
     go_wp2_with fail
     refine (zu4 k HLT.out ax (fun j=>n k j+20) ay (x k) (y k) wf (MkS.of_rows (u:=u k) (c:=ay) HUU.out (fun j hj=>by have:=HA0.out.hn k HLT.out j hj;omega) (fun j hj=>za1 (HAP.out.news k HLT.out j hj) HKF.out))).mono ?_
     rintro e wh ⟨rfl,hkh⟩
     have HKH:=hid (HKF.out.step hkh)
     clear hkh lm s0 s1 s2 s3 s4 s5 s6 s7 s8
     go_wp2_with fail
     go_roundw
     case rel=>exact ⟨k+1,rfl,by omega,HKH⟩
     case measure=>simp only [intOf,Int.toNat_natCast];omega
    ·have hk:k=4:=by omega
     subst hk
     go_wp2_with fail
     go_ret
     exact ⟨rfl,HBW.out.trans (HAP.out.bel.trans (Below.mono HK.out (Nat.le_trans HA0.out.le HAP.out.bel.size)))⟩
end
end Go.Proofs.YtgobgdljckamkaaGreatDoor
