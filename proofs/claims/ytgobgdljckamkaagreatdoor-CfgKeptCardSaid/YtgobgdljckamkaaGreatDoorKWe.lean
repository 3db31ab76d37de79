import Derived.Test.YtgobgdljckamkaaGreatDoorKTj
import Derived.Test.YtgobgdljckamkaaGreatDoorKTn
set_option linter.unusedVariables false
set_option linter.unusedSimpArgs false
set_option linter.unnecessarySimpa false
namespace Go.Proofs.YtgobgdljckamkaaGreatDoor
section
open Go.RowKit
def setNd (w:World) (b j:Nat) (n:Nd):World:=((((((w.setCell ⟨b,j*6,none⟩ (.int .i64 n.depth)).setCell ⟨b,j*6+1,none⟩ (.int .i64 n.kind)).setCell ⟨b,j*6+2,none⟩ (.string n.name)).setCell ⟨b,j*6+3,none⟩ (.int .i64 n.num)).setCell ⟨b,j*6+4,none⟩ (.int .i64 n.op)).setCell ⟨b,j*6+5,none⟩ (.int .i64 n.pos))
theorem zW6:∀ (ns:List Nd) (p:Nat) (n:Nd),p<ns.length→((((((ndL ns).set (p*6) (.int .i64 n.depth)).set (p*6+1) (.int .i64 n.kind)).set (p*6+2) (.string n.name)).set (p*6+3) (.int .i64 n.num)).set (p*6+4) (.int .i64 n.op)).set (p*6+5) (.int .i64 n.pos)=ndL (ns.set p n)
 | [],p,n,h=>by cases h
 | x::xs,0,n,_=>by
  rw [List.set_cons_zero,zg0,zg0]
  rfl
 | x::xs,p+1,n,h=>by
  have ih:=zW6 xs p n (Nat.lt_of_succ_lt_succ h)
  rw [List.set_cons_succ,zg0,zg0,←ih,show (p+1)*6=p*6+1+1+1+1+1+1 by omega]
  rfl
theorem zF4 (ns:List Nd) (p:Nat) (n:Nd) (ys:List Value) (h:p<ns.length):((((((ndL ns++ys).set (p*6) (.int .i64 n.depth)).set (p*6+1) (.int .i64 n.kind)).set (p*6+2) (.string n.name)).set (p*6+3) (.int .i64 n.num)).set (p*6+4) (.int .i64 n.op)).set (p*6+5) (.int .i64 n.pos)=ndL (ns.set p n)++ys:=by
 have hl:=zm3 ns
 rw [List.set_append_left _ _ (by omega),List.set_append_left _ _ (by simp only [List.length_set];omega),List.set_append_left _ _ (by simp only [List.length_set];omega),List.set_append_left _ _ (by simp only [List.length_set];omega),List.set_append_left _ _ (by simp only [List.length_set];omega),List.set_append_left _ _ (by simp only [List.length_set];omega),zW6 ns p n h]
theorem zu7 (w:World) (b j:Nat) (n:Nd) {k:Nat} (h:k≠b):(setNd w b j n).heap[k]?=w.heap[k]?:=by
 unfold setNd
 rw [Below.heap_setCell _ _ _ _ h,Below.heap_setCell _ _ _ _ h,Below.heap_setCell _ _ _ _ h,Below.heap_setCell _ _ _ _ h,Below.heap_setCell _ _ _ _ h,Below.heap_setCell _ _ _ _ h]
theorem CRows.put {w:World} {B:Nat} {g d:Nat→Nat} {ns:List Nd} {m:Ls} {p:Nat} (h:CRows w B g d ns m) (up:∀ j k,j<k→k<6→g j<g k) (hp:p<ns.length) (n:Nd):CRows (setNd w (g 0) p n) B g d (ns.set p n) m:=by
 have keep:∀ k,k<6→k≠0→(setNd w (g 0) p n).ownsRow B (TY k) (SZ k) (.slice (some ⟨g k,0,none⟩) (nOf ns.length m k+1) (d k)) (nOf ns.length m k+1) (xOf ns ns.length m k++mkOf k):=fun k hk hne=>zd2 (h k hk) fun b hb=>zu7 _ _ _ _ (by
  have e:g k=b:=Option.some.inj hb
  have:=up 0 k (by omega) hk
  omega)
 refine zt3 ?_ (keep 1 (by decide) (by decide)) (keep 2 (by decide) (by decide)) (keep 3 (by decide) (by decide)) (keep 4 (by decide) (by decide)) (keep 5 (by decide) (by decide))
 have h0:=h 0 (by decide)
 rw [zn9] at h0
 rw [zn9,←zF4 ns p n (mkOf 0) hp,show nOf (ns.set p n).length m 0=nOf ns.length m 0 by show (ns.set p n).length=ns.length;simp]
 exact (World.ownsRow.stored (World.ownsRow.stored (World.ownsRow.stored (World.ownsRow.stored (World.ownsRow.stored (World.ownsRow.stored h0 _ _).1 _ _).1 _ _).1 _ _).1 _ _).1 _ _).1
theorem CRows.past {w:World} {B b j:Nat} {g d:Nat→Nat} {ns:List Nd} {m:Ls} (h:CRows w B g d ns m) (hb:∀ k,k<6→g k≠b) (n:Nd):CRows (setNd w b j n) B g d ns m:=fun k hk=>zd2 (h k hk) fun c hc=>zu7 _ _ _ _ (by
  have e:g k=c:=Option.some.inj hc
  rw [←e];exact hb k hk)
theorem CRows.cp {w:World} {B:Nat} {g d:Nat→Nat} {ns:List Nd} {m:Ls} (h:CRows w B g d ns m) (hB:2≤B) (up:∀ j k,j<k→k<6→g j<g k):CpIs w 0 g d ns m:=⟨fun k hk=>za7 (h k hk) hB,up⟩
theorem CRows.cells {w:World} {B p:Nat} {g d:Nat→Nat} {ns:List Nd} {m:Ls} {n:Nd} (h:CRows w B g d ns m) (hp:ns[p]?=some n):w.cell? ⟨g 0,p*6,none⟩=some (.int .i64 n.depth)∧w.cell? ⟨g 0,p*6+1,none⟩=some (.int .i64 n.kind)∧w.cell? ⟨g 0,p*6+2,none⟩=some (.string n.name)∧w.cell? ⟨g 0,p*6+3,none⟩=some (.int .i64 n.num)∧w.cell? ⟨g 0,p*6+4,none⟩=some (.int .i64 n.op)∧w.cell? ⟨g 0,p*6+5,none⟩=some (.int .i64 n.pos)∧∀ k,w.frozen? ⟨g 0,k,none⟩=false:=by
 have h0:=h 0 (by decide)
 rw [zn9] at h0
 obtain ⟨k0,k1,k2,k3,k4,k5⟩:=zf7 hp
 have hc:∀ j u,(ndL ns)[j]?=some u→w.cell? ⟨g 0,j,none⟩=some u:=fun j u hj=>by
  have:=h0.cells (g:=g 0) rfl j u (by rw [List.getElem?_append_left (List.getElem?_eq_some_iff.1 hj).1];exact hj)
  rw [zc0,Nat.zero_add] at this
  exact this
 refine ⟨hc _ _ k0,hc _ _ k1,hc _ _ k2,hc _ _ k3,hc _ _ k4,hc _ _ k5,fun k=>?_⟩
 rcases h0.2 with ⟨e1,_⟩ | ⟨g',cap',cur,e1,h1,h2,_⟩
 ·cases e1
 ·injection e1 with e1
  injection e1 with e1
  injection e1 with e1
  subst e1
  exact frozen_of_row _ _ _ _ _ h2
end
section
open Go.RowKit
theorem zI5:∀ (ns:List Nd) (p q:Nat) (nd nd':Nd) (v:Value),ns[p]?=some nd→q<6→ndV nd'=(ndV nd).set q v→(ndL ns).set (p*6+q) v=ndL (ns.set p nd')
 | [],p,q,nd,nd',v,h,_,_=>by simp at h
 | x::xs,0,q,nd,nd',v,h,hq,e=>by
  simp at h
  subst h
  rw [List.set_cons_zero,zg0,zg0,e,Nat.zero_mul,Nat.zero_add,List.set_append_left _ _ (by simp [ndV];omega)]
 | x::xs,p+1,q,nd,nd',v,h,hq,e=>by
  rw [List.getElem?_cons_succ] at h
  have ih:=zI5 xs p q nd nd' v h hq e
  have hl:(ndV x).length=6:=rfl
  rw [List.set_cons_succ,zg0,zg0,←ih,List.set_append_right _ _ (by omega),hl,show (p+1)*6+q-6=p*6+q by omega]
theorem CRows.cellN {w:World} {B:Nat} {g d:Nat→Nat} {ns:List Nd} {m:Ls} {p q:Nat} {nd:Nd} (h:CRows w B g d ns m) (up:∀ j k,j<k→k<6→g j<g k) (hp:ns[p]?=some nd) (nd':Nd) (v:Value) (hq:q<6) (e:ndV nd'=(ndV nd).set q v):CRows (w.setCell ⟨g 0,p*6+q,none⟩ v) B g d (ns.set p nd') m:=by
 have hl:=(List.getElem?_eq_some_iff.1 hp).1
 have keep:∀ k,k<6→k≠0→(w.setCell ⟨g 0,p*6+q,none⟩ v).ownsRow B (TY k) (SZ k) (.slice (some ⟨g k,0,none⟩) (nOf ns.length m k+1) (d k)) (nOf ns.length m k+1) (xOf ns ns.length m k++mkOf k):=fun k hk hne=>zd2 (h k hk) fun b hb=>Below.heap_setCell _ _ _ _ (by
  have e:g k=b:=Option.some.inj hb
  have:=up 0 k (by omega) hk
  show b≠g 0
  omega)
 refine zt3 ?_ (keep 1 (by decide) (by decide)) (keep 2 (by decide) (by decide)) (keep 3 (by decide) (by decide)) (keep 4 (by decide) (by decide)) (keep 5 (by decide) (by decide))
 have h0:=h 0 (by decide)
 rw [zn9] at h0
 rw [zn9,show nOf (ns.set p nd').length m 0=nOf ns.length m 0 by show (ns.set p nd').length=ns.length;simp,←zI5 ns p q nd nd' v hp hq e,←List.set_append_left _ _ (by rw [zm3];omega)]
 exact (World.ownsRow.stored h0 _ _).1
theorem CRows.cellY {w:World} {B:Nat} {g d:Nat→Nat} {ns:List Nd} {m:Ls} {p:Nat} (h:CRows w B g d ns m) (up:∀ j k,j<k→k<6→g j<g k) (hp:p<m.sy.length) (y:Int):CRows (w.setCell ⟨g 3,p,none⟩ (.int .i64 y)) B g d ns { m with sy:=m.sy.set p y }:=by
 have keep:∀ k,k<6→k≠3→(w.setCell ⟨g 3,p,none⟩ (.int .i64 y)).ownsRow B (TY k) (SZ k) (.slice (some ⟨g k,0,none⟩) (nOf ns.length m k+1) (d k)) (nOf ns.length m k+1) (xOf ns ns.length m k++mkOf k):=fun k hk hne=>zd2 (h k hk) fun b hb=>Below.heap_setCell _ _ _ _ (by
  have e:g k=b:=Option.some.inj hb
  show b≠g 3
  rcases Nat.lt_or_ge k 3 with c | c
  ·have:=up k 3 c (by decide);omega
  ·have:=up 3 k (by omega) hk;omega)
 refine zt3 (keep 0 (by decide) (by decide)) (keep 1 (by decide) (by decide)) (keep 2 (by decide) (by decide)) ?_ (keep 4 (by decide) (by decide)) (keep 5 (by decide) (by decide))
 have h3:=(World.ownsRow.stored (h 3 (by decide)) p (.int .i64 y)).1
 have e1:nOf ns.length { m with sy:=m.sy.set p y } 3=nOf ns.length m 3:=by show (m.sy.set p y).length=m.sy.length;simp
 have e2:xOf ns ns.length { m with sy:=m.sy.set p y } 3++mkOf 3=(xOf ns ns.length m 3++mkOf 3).set p (.int .i64 y):=by
  show (m.sy.set p y).map _++_=((m.sy.map _)++_).set p _
  rw [List.set_append_left _ _ (by simpa using hp),List.map_set]
 rw [e1,e2]
 exact h3
def tnN (x:Int→Int) (sc:List ByteArray) (n:Nd):Nd :=
 if n.kind=10∨n.kind=11 then { n with num:=x n.num }
 else if n.kind=15 then (if n.op=3 then { n with op:=4 } else if n.op=8 then { n with op:=11 } else if n.op=14 then { n with op:=15 } else n)
 else if n.kind=4 then { n with kind:=6,name:=⟨#[]⟩ }
 else if n.kind=6 then (match sc with | []=>n | s::_=>{ n with kind:=4,name:=s })
 else n
def tnY (sc:List ByteArray) (n:Nd) (y:Int):Int:=if n.kind=4 then -1 else if n.kind=6 then (match sc with | []=>y | _::_=>0) else y
def tnL (x:Int→Int) (sc:List ByteArray) (ns:List Nd) (i:Nat):List Nd:=(ns.take i).map (tnN x sc)++ns.drop i
def tnS (sc:List ByteArray) (ns:List Nd) (sy:List Int) (i:Nat):List Int:=(List.zipWith (tnY sc) (ns.take i) (sy.take i))++sy.drop i
theorem zy2 {x:Int→Int} {sc:List ByteArray} {ns:List Nd} {i:Nat}:(tnL x sc ns i)[i]?=ns[i]?:=by
 unfold tnL
 by_cases h:i≤ns.length
 ·rw [List.getElem?_append_right (by simp;omega),List.length_map,List.length_take,Nat.min_eq_left h,Nat.sub_self,List.getElem?_drop,Nat.add_zero]
 ·rw [List.getElem?_eq_none (by simp;omega),List.getElem?_eq_none (by omega)]
theorem zy3 {x:Int→Int} {sc:List ByteArray} {ns:List Nd} {i:Nat} {n:Nd} (h:ns[i]?=some n):(tnL x sc ns i).set i (tnN x sc n)=tnL x sc ns (i+1):=by
 obtain ⟨hi,e⟩:=List.getElem?_eq_some_iff.1 h
 unfold tnL
 rw [List.set_append_right _ _ (by simp;omega),List.length_map,List.length_take,Nat.min_eq_left (by omega),Nat.sub_self,List.drop_eq_getElem_cons hi,List.set_cons_zero,List.take_add_one,h,Option.toList_some,List.map_append,List.append_assoc]
 rfl
theorem zI6 {sc:List ByteArray} {ns:List Nd} {sy:List Int} {i:Nat} {n:Nd} {y:Int} (h:ns[i]?=some n) (hy:sy[i]?=some y):(tnS sc ns sy i).set i (tnY sc n y)=tnS sc ns sy (i+1):=by
 obtain ⟨hi,e⟩:=List.getElem?_eq_some_iff.1 h
 obtain ⟨hj,f⟩:=List.getElem?_eq_some_iff.1 hy
 unfold tnS
 rw [List.set_append_right _ _ (by simp;omega),List.length_zipWith,List.length_take,List.length_take,Nat.min_eq_left (show i≤ns.length by omega),Nat.min_eq_left (show i≤sy.length by omega),Nat.min_self,Nat.sub_self,List.drop_eq_getElem_cons hj,List.set_cons_zero,List.take_add_one,List.take_add_one,h,hy,Option.toList_some,Option.toList_some,List.zipWith_append (by simp;omega),List.append_assoc]
 rfl
theorem zI7 {sc:List ByteArray} {ns:List Nd} {sy:List Int} {i:Nat} {n:Nd} {y:Int} (h:ns[i]?=some n) (hy:sy[i]?=some y) (e:tnY sc n y=y):tnS sc ns sy i=tnS sc ns sy (i+1):=by
 rw [←zI6 h hy,e]
 have hg:(tnS sc ns sy i)[i]?=some y:=by
  obtain ⟨hi,_⟩:=List.getElem?_eq_some_iff.1 h
  obtain ⟨hj,f⟩:=List.getElem?_eq_some_iff.1 hy
  unfold tnS
  rw [List.getElem?_append_right (by simp;omega),List.length_zipWith,List.length_take,List.length_take,Nat.min_eq_left (show i≤ns.length by omega),Nat.min_eq_left (show i≤sy.length by omega),Nat.min_self,Nat.sub_self,List.getElem?_drop,Nat.add_zero]
  exact hy
 obtain ⟨hi,e2⟩:=List.getElem?_eq_some_iff.1 hg
 rw [←e2,List.set_getElem_self]
end
section
open Go.RowKit
def x1 (z:Int):Int:=bits BinOp.xor IntKind.i64 z 1
structure TUI (w wr:World) (B:Nat) (g d:Nat→Nat) (ns:List Nd) (m:Ls) (i:Nat):Prop where
 row:CRows wr B g d (tnL x1 m.sc ns i) { m with sy:=tnS m.sc ns m.sy i }
 bel:Below B w wr
 fr:∀ b,b<w.heap.size→b≠g 0→b≠g 3→wr.heap[b]?=w.heap[b]?
theorem TUI.set {w wr:World} {B:Nat} {g d:Nat→Nat} {ms:List Nd} {l:Ls} {b p:Nat} {v:Value} (h:CRows wr B g d ms l) (hb:b=g 0∨b=g 3) (bel:Below B w wr) (fr:∀ b,b<w.heap.size→b≠g 0→b≠g 3→wr.heap[b]?=w.heap[b]?):Below B w (wr.setCell ⟨b,p,none⟩ v)∧∀ b',b'<w.heap.size→b'≠g 0→b'≠g 3→(wr.setCell ⟨b,p,none⟩ v).heap[b']?=w.heap[b']?:=by
 have h0:=((h 0 (by decide)).lt (g 0) rfl).1
 have h3:=((h 3 (by decide)).lt (g 3) rfl).1
 refine ⟨bel.setCell (p:=⟨b,p,none⟩) (by show B≤b;rcases hb with e | e<;>omega) v,fun b' h1 h2 h4=>?_⟩
 rw [Below.heap_setCell _ _ _ _ (show b'≠b by rcases hb with e | e<;>omega)]
 exact fr b' h1 h2 h4
theorem CRows.free {w:World} {B:Nat} {g d:Nat→Nat} {ns:List Nd} {m:Ls} (h:CRows w B g d ns m) (k:Nat) (hk:k<6) (j:Nat):w.frozen? ⟨g k,j,none⟩=false:=by
 rcases (h k hk).2 with ⟨e1,_⟩ | ⟨g',cap',cur,e1,h1,h2,_⟩
 ·cases e1
 ·injection e1 with e1
  injection e1 with e1
  injection e1 with e1
  subst e1
  exact frozen_of_row _ _ _ _ _ h2
theorem CRows.at1 {w:World} {B:Nat} {g d:Nat→Nat} {ns:List Nd} {m:Ls} (h:CRows w B g d ns m) (k:Nat) (hk:k<6) (j:Nat) (v:Value) (hj:(xOf ns ns.length m k)[j]?=some v):w.cell? ⟨g k,j,none⟩=some v:=by
 have:=(h k hk).cells (g:=g k) rfl j v (by rw [List.getElem?_append_left (List.getElem?_eq_some_iff.1 hj).1];exact hj)
 rw [zc0,Nat.zero_add] at this
 exact this
theorem yi2 {sc:List ByteArray} {ns:List Nd} {sy:List Int} {i:Nat} {n:Nd} {y:Int} (h:ns[i]?=some n) (hy:sy[i]?=some y):(tnS sc ns sy i)[i]?=some y:=by
 obtain ⟨hi,_⟩:=List.getElem?_eq_some_iff.1 h
 obtain ⟨hj,f⟩:=List.getElem?_eq_some_iff.1 hy
 unfold tnS
 rw [List.getElem?_append_right (by simp;omega),List.length_zipWith,List.length_take,List.length_take,Nat.min_eq_left (show i≤ns.length by omega),Nat.min_eq_left (show i≤sy.length by omega),Nat.min_self,Nat.sub_self,List.getElem?_drop,Nat.add_zero]
 exact hy
theorem TUI.one {w wr:World} {B i q:Nat} {g d:Nat→Nat} {ns:List Nd} {m:Ls} {nd:Nd} {y:Int} {v:Value} (h:TUI w wr B g d ns m i) (up:∀ j k,j<k→k<6→g j<g k) (hn:ns[i]?=some nd) (hy:m.sy[i]?=some y) (hq:q<6) (e:ndV (tnN x1 m.sc nd)=(ndV nd).set q v) (ey:tnY m.sc nd y=y):TUI w (wr.setCell ⟨g 0,i*6+q,none⟩ v) B g d ns m (i+1):=by
 have r:=h.row.cellN up (zy2.trans hn) (tnN x1 m.sc nd) v hq e
 rw [zy3 hn,zI7 hn hy ey] at r
 obtain ⟨a,b⟩:=TUI.set (p:=i*6+q) (v:=v) h.row (Or.inl rfl) h.bel h.fr
 exact ⟨r,a,b⟩
theorem TUI.idle {w wr:World} {B i:Nat} {g d:Nat→Nat} {ns:List Nd} {m:Ls} {nd:Nd} {y:Int} (h:TUI w wr B g d ns m i) (hn:ns[i]?=some nd) (hy:m.sy[i]?=some y) (e:tnN x1 m.sc nd=nd) (ey:tnY m.sc nd y=y):TUI w wr B g d ns m (i+1):=by
 refine ⟨?_,h.bel,h.fr⟩
 have r:=h.row
 have hs:(tnL x1 m.sc ns i).set i nd=tnL x1 m.sc ns i:=by
  obtain ⟨hi,e2⟩:=List.getElem?_eq_some_iff.1 (zy2 (x:=x1) (sc:=m.sc) |>.trans hn)
  conv=>lhs;rw [←e2]
  rw [List.set_getElem_self]
 rw [←hs,zI7 hn hy ey] at r
 rw [←zy3 hn,e]
 exact r
theorem TUI.mid {w wr:World} {B i:Nat} {g d:Nat→Nat} {ns:List Nd} {m:Ls} {nd:Nd} (h:TUI w wr B g d ns m i) (up:∀ j k,j<k→k<6→g j<g k) (hn:ns[i]?=some nd) (v1:Int) (s2:ByteArray) :
  CRows (wr.setCell ⟨g 0,i*6+1,none⟩ (.int .i64 v1)) B g d ((tnL x1 m.sc ns i).set i { nd with kind:=v1 }) { m with sy:=tnS m.sc ns m.sy i }∧CRows ((wr.setCell ⟨g 0,i*6+1,none⟩ (.int .i64 v1)).setCell ⟨g 0,i*6+2,none⟩ (.string s2)) B g d ((tnL x1 m.sc ns i).set i { nd with kind:=v1,name:=s2 }) { m with sy:=tnS m.sc ns m.sy i }:=by
 have hg:=zy2 (x:=x1) (sc:=m.sc) |>.trans hn
 have r1:=h.row.cellN (q:=1) up hg { nd with kind:=v1 } (.int .i64 v1) (by decide) rfl
 have r2:=r1.cellN (q:=2) (p:=i) (nd:={ nd with kind:=v1 }) up (by rw [List.getElem?_set_self (List.getElem?_eq_some_iff.1 hg).1]) { nd with kind:=v1,name:=s2 } (.string s2) (by decide) rfl
 rw [List.set_set] at r2
 exact ⟨r1,r2⟩
theorem TUI.three {w wr:World} {B i:Nat} {g d:Nat→Nat} {ns:List Nd} {m:Ls} {nd:Nd} {y y2 v1:Int} {s2:ByteArray} (h:TUI w wr B g d ns m i) (up:∀ j k,j<k→k<6→g j<g k) (hn:ns[i]?=some nd) (hy:m.sy[i]?=some y) (e:tnN x1 m.sc nd={ nd with kind:=v1,name:=s2 }) (ey:tnY m.sc nd y=y2):TUI w (((wr.setCell ⟨g 0,i*6+1,none⟩ (.int .i64 v1)).setCell ⟨g 0,i*6+2,none⟩ (.string s2)).setCell ⟨g 3,i,none⟩ (.int .i64 y2)) B g d ns m (i+1):=by
 obtain ⟨r1,r2⟩:=h.mid up hn v1 s2
 have hl:i<(tnS m.sc ns m.sy i).length:=by
  obtain ⟨hi,_⟩:=List.getElem?_eq_some_iff.1 hn
  obtain ⟨hj,_⟩:=List.getElem?_eq_some_iff.1 hy
  unfold tnS
  simp
  omega
 have r3:=r2.cellY (p:=i) up hl y2
 rw [←e,zy3 hn] at r3
 have r4:CRows (((wr.setCell ⟨g 0,i*6+1,none⟩ (.int .i64 v1)).setCell ⟨g 0,i*6+2,none⟩ (.string s2)).setCell ⟨g 3,i,none⟩ (.int .i64 y2)) B g d (tnL x1 m.sc ns (i+1)) { m with sy:=(tnS m.sc ns m.sy i).set i y2 }:=r3
 rw [←ey,zI6 hn hy,ey] at r4
 obtain ⟨a1,b1⟩:=TUI.set (p:=i*6+1) (v:=.int .i64 v1) h.row (Or.inl rfl) h.bel h.fr
 obtain ⟨a2,b2⟩:=TUI.set (p:=i*6+2) (v:=.string s2) r1 (Or.inl rfl) a1 b1
 obtain ⟨a3,b3⟩:=TUI.set (p:=i) (v:=.int .i64 y2) r2 (Or.inr rfl) a2 b2
 exact ⟨r4,a3,b3⟩
set_option maxRecDepth 100000 in
set_option maxHeartbeats 8000000 in
theorem yl7 (B:Nat) (g d:Nat→Nat) (ns:List Nd) (m:Ls) (w:World) (h:CRows w B g d ns m) (up:∀ j k,j<k→k<6→g j<g k) (hB:B≤w.heap.size) (hsy:m.sy.length=ns.length) (hl:ns.length≤100000) :
  Calls Tryz.prog 15 #[.agg #[cpV ns m g d 0,cpV ns m g d 1,cpV ns m g d 2,cpV ns m g d 3,cpV ns m g d 4,cpV ns m g d 5]] w fun e w'=>e=.returned (.tuple #[])∧TUI w w' B g d ns m ns.length:=by
 have HUP:=hid up
 have HSY:Hid (m.sy.length=ns.length∧ns.length≤100000):=⟨hsy,hl⟩
 have HB:=hid hB
 have HLT:Hid (∀ k,k<6→g k<w.heap.size):=fun k hk=>((h k hk).lt (g k) rfl).2
 obtain ⟨a0,ha0⟩:∃ x,x=g 0:=⟨_,rfl⟩
 obtain ⟨q0,hq0⟩:∃ x,x=d 0:=⟨_,rfl⟩
 obtain ⟨n0,hn0⟩:∃ x,x=nOf ns.length m 0:=⟨_,rfl⟩
 obtain ⟨a1,ha1⟩:∃ x,x=g 1:=⟨_,rfl⟩
 obtain ⟨q1,hq1⟩:∃ x,x=d 1:=⟨_,rfl⟩
 obtain ⟨n1,hn1⟩:∃ x,x=nOf ns.length m 1:=⟨_,rfl⟩
 obtain ⟨a2,ha2⟩:∃ x,x=g 2:=⟨_,rfl⟩
 obtain ⟨q2,hq2⟩:∃ x,x=d 2:=⟨_,rfl⟩
 obtain ⟨n2,hn2⟩:∃ x,x=nOf ns.length m 2:=⟨_,rfl⟩
 obtain ⟨a3,ha3⟩:∃ x,x=g 3:=⟨_,rfl⟩
 obtain ⟨q3,hq3⟩:∃ x,x=d 3:=⟨_,rfl⟩
 obtain ⟨n3,hn3⟩:∃ x,x=nOf ns.length m 3:=⟨_,rfl⟩
 obtain ⟨a4,ha4⟩:∃ x,x=g 4:=⟨_,rfl⟩
 obtain ⟨q4,hq4⟩:∃ x,x=d 4:=⟨_,rfl⟩
 obtain ⟨n4,hn4⟩:∃ x,x=nOf ns.length m 4:=⟨_,rfl⟩
 obtain ⟨a5,ha5⟩:∃ x,x=g 5:=⟨_,rfl⟩
 obtain ⟨q5,hq5⟩:∃ x,x=d 5:=⟨_,rfl⟩
 obtain ⟨n5,hn5⟩:∃ x,x=nOf ns.length m 5:=⟨_,rfl⟩
 have HN:Hid (n0=nOf ns.length m 0∧n1=nOf ns.length m 1∧n2=nOf ns.length m 2∧n3=nOf ns.length m 3∧n4=nOf ns.length m 4∧n5=nOf ns.length m 5∧a0=g 0∧a3=g 3∧a1=g 1):=⟨hn0,hn1,hn2,hn3,hn4,hn5,ha0,ha3,ha1⟩
 unfold cpV
 rw [←ha0,←hq0,←hn0,←ha1,←hq1,←hn1,←ha2,←hq2,←hn2,←ha3,←hq3,←hn3,←ha4,←hq4,←hn4,←ha5,←hq5,←hn5]
 have HROOM:Hid (n0+1≤q0∧n1+1≤q1∧n3+1≤q3):=⟨by rw [hn0,hq0];exact (h.room 0 (by decide)).1,by rw [hn1,hq1];exact (h.room 1 (by decide)).1,by rw [hn3,hq3];exact (h.room 3 (by decide)).1⟩
 obtain ⟨w0,hw0⟩:∃ z,z=w.alloc (Obj.cells #[Value.slice (some ⟨a0,0,none⟩) n0 q0,Value.slice (some ⟨a1,0,none⟩) n1 q1,Value.slice (some ⟨a2,0,none⟩) n2 q2,Value.slice (some ⟨a3,0,none⟩) n3 q3,Value.slice (some ⟨a4,0,none⟩) n4 q4,Value.slice (some ⟨a5,0,none⟩) n5 q5] 27):=⟨_,rfl⟩
 obtain ⟨gb,hgb⟩:∃ z,z=w.heap.size:=⟨_,rfl⟩
 have e01:tnL x1 m.sc ns 0=ns:=by simp [tnL]
 have e02:tnS m.sc ns m.sy 0=m.sy:=by simp [tnS]
 have HI0:Hid (TUI w w0 B g d ns m 0):=⟨by rw [hw0,e01,e02];exact h.ok ((Ok.refl _).alloc _),by rw [hw0];exact Below.mono ((Ok.refl w).alloc _) hB,fun b hb _ _=>by rw [hw0];exact Below.block ((Ok.refl w).alloc _) b hb⟩
 clear e01 e02
 have HX0:Hid (w0.heap[gb]?=some (.cells #[Value.slice (some ⟨a0,0,none⟩) n0 q0,Value.slice (some ⟨a1,0,none⟩) n1 q1,Value.slice (some ⟨a2,0,none⟩) n2 q2,Value.slice (some ⟨a3,0,none⟩) n3 q3,Value.slice (some ⟨a4,0,none⟩) n4 q4,Value.slice (some ⟨a5,0,none⟩) n5 q5] 27 (0,0))):=by unfold Hid;rw [hw0,hgb];exact za6 _ _
 have HGB:Hid (gb=w.heap.size):=hgb
 clear h up hB hsy hl ha0 hq0 hn0 ha1 hq1 hn1 ha2 hq2 hn2 ha3 hq3 hn3 ha4 hq4 hn4 ha5 hq5 hn5
 go_enter Tryz.func15,Tryz.ntmps15
 go_wp2_with fail
 rw [←hw0,←hgb]
 clear hw0 hgb
 have HC:Hid (∀ W:World,W.heap[gb]?=some (.cells #[Value.slice (some ⟨a0,0,none⟩) n0 q0,Value.slice (some ⟨a1,0,none⟩) n1 q1,Value.slice (some ⟨a2,0,none⟩) n2 q2,Value.slice (some ⟨a3,0,none⟩) n3 q3,Value.slice (some ⟨a4,0,none⟩) n4 q4,Value.slice (some ⟨a5,0,none⟩) n5 q5] 27 (0,0))→W.cell? ⟨gb,0,none⟩=some (.slice (some ⟨a0,0,none⟩) n0 q0)∧W.cell? ⟨gb,1,none⟩=some (.slice (some ⟨a1,0,none⟩) n1 q1)∧W.cell? ⟨gb,3,none⟩=some (.slice (some ⟨a3,0,none⟩) n3 q3)∧gb<W.heap.size):=fun W e=>⟨(cell_of_row _ _ 0 _ _ _ e).trans (by simp),(cell_of_row _ _ 1 _ _ _ e).trans (by simp),(cell_of_row _ _ 3 _ _ _ e).trans (by simp),za3 e⟩
 obtain ⟨k0,k1,k3,kl⟩:=HC.out w0 HX0.out
 go_wp2_with fail
 go_loopw [7] (fun t wr=>∃ i:Nat,i≤n0∧t=.int .i64 (i:Nat)∧Hid (TUI w wr B g d ns m i)∧Hid (wr.heap[gb]?=some (.cells #[Value.slice (some ⟨a0,0,none⟩) n0 q0,Value.slice (some ⟨a1,0,none⟩) n1 q1,Value.slice (some ⟨a2,0,none⟩) n2 q2,Value.slice (some ⟨a3,0,none⟩) n3 q3,Value.slice (some ⟨a4,0,none⟩) n4 q4,Value.slice (some ⟨a5,0,none⟩) n5 q5] 27 (0,0)))) (fun t _=>n0-(intOf t).toNat)
 case atStart=>exact ⟨0,Nat.zero_le _,rfl,HI0,HX0⟩
 case round =>
  clear k0 k1 k3 kl
  obtain ⟨i,hi,rfl,HI,HX⟩:=hrel
  obtain ⟨k0,k1,k3,kl⟩:=HC.out wr HX.out
  by_cases hlt:i<n0
  ·have hlt':(i:Int)<(n0:Int):=za4 hlt
   have HN0:Hid (n0=ns.length):=HN.out.1
   have hkw:IntKind.i64.wrap ((i:Int)+1)=((i+1:Nat):Int):=zb0 (by have h1:=HN0.out;have h2:=HSY.out;omega)
   obtain ⟨nd,hnd⟩:∃ z,ns[i]?=some z:=⟨_,List.getElem?_eq_getElem (by have:=HN0.out;omega)⟩
   have HND:Hid (ns[i]?=some nd):=hnd
   obtain ⟨y0,hy0⟩:∃ z,m.sy[i]?=some z:=⟨_,List.getElem?_eq_getElem (by have h1:=HN0.out;have h2:=HSY.out;omega)⟩
   have HYY:Hid (m.sy[i]?=some y0):=hy0
   obtain ⟨c0,c1,c2,c3,c4,c5,cf⟩:=HI.out.row.cells (zy2.trans hnd)
   rw [←HN.out.2.2.2.2.2.2.1] at c0 c1 c2 c3 c4 c5 cf
   have la:a0<wr.heap.size:=by rw [HN.out.2.2.2.2.2.2.1];exact ((HI.out.row 0 (by decide)).lt (g 0) rfl).2
   have lg:a0<gb:=by rw [HN.out.2.2.2.2.2.2.1,HGB.out];exact HLT.out 0 (by decide)
   have lg3:a3<gb:=by rw [HN.out.2.2.2.2.2.2.2.1,HGB.out];exact HLT.out 3 (by decide)
   obtain ⟨kd,hkd⟩:∃ z,z=nd.kind:=⟨_,rfl⟩
   rw [←hkd] at c1
   have HKD:Hid (kd=nd.kind):=hkd
   have AG0:Hid (a0=g 0):=HN.out.2.2.2.2.2.2.1
   clear hnd hy0 hkd
   by_cases h10:kd=10
   ·subst h10
    go_wp2_with fail
    exact ⟨⟨i+1,by omega,rfl,by rw [AG0.out];exact HI.out.one HUP.out HND.out HYY.out (by decide) (by simp [tnN,←HKD.out,ndV,x1]) (by simp [tnY,←HKD.out]),by unfold Hid;rw [Below.heap_setCell _ _ _ _ (by show gb≠a0;omega)];exact HX.out⟩,by simp [intOf];omega⟩
   by_cases h11:kd=11
   ·subst h11
    go_wp2_with fail
    exact ⟨⟨i+1,by omega,rfl,by rw [AG0.out];exact HI.out.one HUP.out HND.out HYY.out (by decide) (by simp [tnN,←HKD.out,ndV,x1]) (by simp [tnY,←HKD.out]),by unfold Hid;rw [Below.heap_setCell _ _ _ _ (by show gb≠a0;omega)];exact HX.out⟩,by simp [intOf];omega⟩
   by_cases h15:kd=15
   ·subst h15
    obtain ⟨op,hop⟩:∃ z,z=nd.op:=⟨_,rfl⟩
    rw [←hop] at c4
    have HOP:Hid (op=nd.op):=hop
    clear hop
    by_cases o3:op=3
    ·subst o3
     go_wp2_with fail
     exact ⟨⟨i+1,by omega,rfl,by rw [AG0.out];exact HI.out.one HUP.out HND.out HYY.out (by decide) (by simp [tnN,←HKD.out,ndV,←HOP.out]) (by simp [tnY,←HKD.out]),by unfold Hid;rw [Below.heap_setCell _ _ _ _ (by show gb≠a0;omega)];exact HX.out⟩,by simp [intOf];omega⟩
    by_cases o8:op=8
    ·subst o8
     go_wp2_with fail
     exact ⟨⟨i+1,by omega,rfl,by rw [AG0.out];exact HI.out.one HUP.out HND.out HYY.out (by decide) (by simp [tnN,←HKD.out,ndV,←HOP.out]) (by simp [tnY,←HKD.out]),by unfold Hid;rw [Below.heap_setCell _ _ _ _ (by show gb≠a0;omega)];exact HX.out⟩,by simp [intOf];omega⟩
    by_cases o14:op=14
    ·subst o14
     go_wp2_with fail
     exact ⟨⟨i+1,by omega,rfl,by rw [AG0.out];exact HI.out.one HUP.out HND.out HYY.out (by decide) (by simp [tnN,←HKD.out,ndV,←HOP.out]) (by simp [tnY,←HKD.out]),by unfold Hid;rw [Below.heap_setCell _ _ _ _ (by show gb≠a0;omega)];exact HX.out⟩,by simp [intOf];omega⟩
    go_wp2_with fail
    exact ⟨⟨i+1,by omega,rfl,HI.out.idle HND.out HYY.out (by simp [tnN,←HKD.out,←HOP.out,o3,o8,o14]) (by simp [tnY,←HKD.out,←HOP.out,o3,o8,o14]),HX⟩,by simp [intOf];omega⟩
   have AG3:Hid (a3=g 3):=HN.out.2.2.2.2.2.2.2.1
   have AG1:Hid (a1=g 1):=HN.out.2.2.2.2.2.2.2.2
   have N3:Hid (i<n3):=by have h1:=HN.out.2.2.2.1;have h2:=HSY.out;have h3:=HN0.out;show i<n3;rw [h1];show i<m.sy.length;omega
   have SYAT:Hid (((tnS m.sc ns m.sy i).map (fun s=>Value.int .i64 s))[i]?=some (Value.int .i64 y0)):=by unfold Hid;rw [List.getElem?_map,yi2 HND.out HYY.out];rfl
   by_cases h4:kd=4
   ·subst h4
    obtain ⟨M1,M2⟩:=HI.out.mid HUP.out HND.out 6 ⟨#[]⟩
    rw [←AG0.out] at M1 M2
    have X1:(wr.setCell ⟨a0,i*6+1,none⟩ (.int .i64 6)).heap[gb]?=wr.heap[gb]?:=Below.heap_setCell _ _ _ _ (by show gb≠a0;omega)
    have X2:((wr.setCell ⟨a0,i*6+1,none⟩ (.int .i64 6)).setCell ⟨a0,i*6+2,none⟩ (.string ⟨#[]⟩)).heap[gb]?=wr.heap[gb]?:=(Below.heap_setCell _ _ _ _ (by show gb≠a0;omega)).trans X1
    have X3:∀ y,(((wr.setCell ⟨a0,i*6+1,none⟩ (.int .i64 6)).setCell ⟨a0,i*6+2,none⟩ (.string ⟨#[]⟩)).setCell ⟨a3,i,none⟩ y).heap[gb]?=wr.heap[gb]?:=fun y=>(Below.heap_setCell _ _ _ _ (by show gb≠a3;omega)).trans X2
    have HX3:Hid (∀ y,(((wr.setCell ⟨a0,i*6+1,none⟩ (.int .i64 6)).setCell ⟨a0,i*6+2,none⟩ (.string ⟨#[]⟩)).setCell ⟨a3,i,none⟩ y).heap[gb]?=wr.heap[gb]?):=X3
    obtain ⟨k0',k1',k3',kl'⟩:=HC.out _ (X1.trans HX.out)
    obtain ⟨k0'',k1'',k3'',kl''⟩:=HC.out _ (X2.trans HX.out)
    have f1:(wr.setCell ⟨a0,i*6+1,none⟩ (.int .i64 6)).frozen? ⟨a0,i*6+2,none⟩=false:=by have:=M1.free 0 (by decide) (i*6+2);rwa [←AG0.out] at this
    have f3:((wr.setCell ⟨a0,i*6+1,none⟩ (.int .i64 6)).setCell ⟨a0,i*6+2,none⟩ (.string ⟨#[]⟩)).frozen? ⟨a3,i,none⟩=false:=by have:=M2.free 3 (by decide) i;rwa [←AG3.out] at this
    have l3:a3<((wr.setCell ⟨a0,i*6+1,none⟩ (.int .i64 6)).setCell ⟨a0,i*6+2,none⟩ (.string ⟨#[]⟩)).heap.size:=by have:=((M2 3 (by decide)).lt (g 3) rfl).2;rwa [←AG3.out] at this
    have g3:∃ v,((wr.setCell ⟨a0,i*6+1,none⟩ (.int .i64 6)).setCell ⟨a0,i*6+2,none⟩ (.string ⟨#[]⟩)).cell? ⟨a3,i,none⟩=some v:=by have:=M2.at1 3 (by decide) i (.int .i64 y0) (SYAT.out);rw [←AG3.out] at this;exact ⟨_,this⟩
    obtain ⟨v3,g3⟩:=g3
    have hlt3:(i:Int)<(n3:Int):=za4 N3.out
    clear M1 M2 X1 X2 X3
    go_wp2_with fail
    exact ⟨⟨i+1,by omega,rfl,by rw [AG0.out,AG3.out];exact HI.out.three HUP.out HND.out HYY.out (by simp [tnN,←HKD.out]) (by simp [tnY,←HKD.out]),(HX3.out _).trans HX.out⟩,by simp [intOf];omega⟩
   by_cases h6:kd=6
   ·subst h6
    by_cases hz:n1=0
    ·have hsc:m.sc=[]:=List.eq_nil_of_length_eq_zero (by have:=HN.out.2.1;rw [hz] at this;exact this.symm)
     have HSC:Hid (m.sc=[]):=hsc
     clear hsc
     subst hz
     go_wp2_with fail
     exact ⟨⟨i+1,by omega,rfl,HI.out.idle HND.out HYY.out (by simp [tnN,←HKD.out,HSC.out]) (by simp [tnY,←HKD.out,HSC.out]),HX⟩,by simp [intOf];omega⟩
    ·obtain ⟨s0,sr,hsc⟩:∃ a b,m.sc=a::b:=by
      cases e:m.sc with
      | nil=>have:=HN.out.2.1;rw [show nOf ns.length m 1=m.sc.length from rfl,e] at this;exact absurd this hz
      | cons a b=>exact ⟨a,b,rfl⟩
     have HSC:Hid (m.sc=s0::sr):=hsc
     clear hsc
     have hz':(0:Int)<(n1:Int):=by omega
     obtain ⟨M1,M2⟩:=HI.out.mid HUP.out HND.out 4 s0
     rw [←AG0.out] at M1 M2
     have X1:(wr.setCell ⟨a0,i*6+1,none⟩ (.int .i64 4)).heap[gb]?=wr.heap[gb]?:=Below.heap_setCell _ _ _ _ (by show gb≠a0;omega)
     have X2:((wr.setCell ⟨a0,i*6+1,none⟩ (.int .i64 4)).setCell ⟨a0,i*6+2,none⟩ (.string s0)).heap[gb]?=wr.heap[gb]?:=(Below.heap_setCell _ _ _ _ (by show gb≠a0;omega)).trans X1
     have X3:∀ y,(((wr.setCell ⟨a0,i*6+1,none⟩ (.int .i64 4)).setCell ⟨a0,i*6+2,none⟩ (.string s0)).setCell ⟨a3,i,none⟩ y).heap[gb]?=wr.heap[gb]?:=fun y=>(Below.heap_setCell _ _ _ _ (by show gb≠a3;omega)).trans X2
     have HX3:Hid (∀ y,(((wr.setCell ⟨a0,i*6+1,none⟩ (.int .i64 4)).setCell ⟨a0,i*6+2,none⟩ (.string s0)).setCell ⟨a3,i,none⟩ y).heap[gb]?=wr.heap[gb]?):=X3
     obtain ⟨k0',k1',k3',kl'⟩:=HC.out _ (X1.trans HX.out)
     obtain ⟨k0'',k1'',k3'',kl''⟩:=HC.out _ (X2.trans HX.out)
     have g1:(wr.setCell ⟨a0,i*6+1,none⟩ (.int .i64 4)).cell? ⟨a1,0,none⟩=some (.string s0):=by have:=M1.at1 1 (by decide) 0 (.string s0) (by show ((m.sc.map _))[0]?=_;rw [HSC.out];rfl);rwa [←AG1.out] at this
     have f1:(wr.setCell ⟨a0,i*6+1,none⟩ (.int .i64 4)).frozen? ⟨a0,i*6+2,none⟩=false:=by have:=M1.free 0 (by decide) (i*6+2);rwa [←AG0.out] at this
     have f3:((wr.setCell ⟨a0,i*6+1,none⟩ (.int .i64 4)).setCell ⟨a0,i*6+2,none⟩ (.string s0)).frozen? ⟨a3,i,none⟩=false:=by have:=M2.free 3 (by decide) i;rwa [←AG3.out] at this
     have l3:a3<((wr.setCell ⟨a0,i*6+1,none⟩ (.int .i64 4)).setCell ⟨a0,i*6+2,none⟩ (.string s0)).heap.size:=by have:=((M2 3 (by decide)).lt (g 3) rfl).2;rwa [←AG3.out] at this
     have g3:∃ v,((wr.setCell ⟨a0,i*6+1,none⟩ (.int .i64 4)).setCell ⟨a0,i*6+2,none⟩ (.string s0)).cell? ⟨a3,i,none⟩=some v:=by have:=M2.at1 3 (by decide) i (.int .i64 y0) (SYAT.out);rw [←AG3.out] at this;exact ⟨_,this⟩
     obtain ⟨v3,g3⟩:=g3
     have hlt3:(i:Int)<(n3:Int):=za4 N3.out
     clear M1 M2 X1 X2 X3
     go_wp2_with fail
     exact ⟨⟨i+1,by omega,rfl,by rw [AG0.out,AG3.out];exact HI.out.three HUP.out HND.out HYY.out (by simp [tnN,←HKD.out,HSC.out]) (by simp [tnY,←HKD.out,HSC.out]),(HX3.out _).trans HX.out⟩,by simp [intOf];omega⟩
   go_wp2_with fail
   exact ⟨⟨i+1,by omega,rfl,HI.out.idle HND.out HYY.out (by simp [tnN,←HKD.out,h4,h6,h10,h11,h15]) (by simp [tnY,←HKD.out,h4,h6,h10,h11,h15]),HX⟩,by simp [intOf];omega⟩
  ·have hn:i=n0:=by omega
   subst hn
   go_wp2_with fail
   go_end0
   have hz:ns.length=i:=HN.out.1.symm
   exact ⟨rfl,by rw [hz];exact HI.out⟩
end
end Go.Proofs.YtgobgdljckamkaaGreatDoor
