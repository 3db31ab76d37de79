import Derived.Test.YtgobgdljckamkaaGreatDoorKWc0
set_option linter.unusedVariables false
set_option linter.unusedSimpArgs false
set_option linter.unnecessarySimpa false
namespace Go.Proofs.YtgobgdljckamkaaGreatDoor
open Go.RowKit
theorem zm1 {P:Program} {w w':World} {base:Nat} {t ty e:TypeId} {i:TypeInfo} {z r:Value} {size bytes:Nat} (ht:P.underlying t=some (.slice e)) (hi:P.info? e=some i) (hz:i.zero=some z) (hsize:i.size=size) (hby:i.bytes=bytes)
  {v:Value} {n:Nat} {xs:List Value} (hown:w.ownsRow base e size v n xs) {a:Addr} {m c:Nat} {news:List Value} (hl:news.length=m*size) (hnews:∀ j u,news[j]?=some u→w.cell? (a.add j)=some u) (h1:∀ u∈news,u.oneCell'=true)
  (h63:n+m≤maxLen) (hbytes:(n+m)*bytes≤140737488355328) (hrun:(Builtin.append_ #[t,t] ty #[v,.slice (some a) m c]).run P w=.ok r w'):w'.ownsRow base e size v n xs:=by
 subst hsize hby
 have hsmall:n+m≤9223372036854775807:=by simp only [maxLen] at h63;omega
 rcases hown.2 with ⟨rfl,rfl⟩ | ⟨g,cap,cur,rfl,hbg,hg,hnc,hcm,hcs,htake⟩
 ·have hx:xs=[]:=List.eq_nil_of_length_eq_zero (by simpa using hown.1)
  subst hx
  exact World.ownsRow_nil _ _ _ _
 ·refine ⟨hown.1,.inr ⟨g,cap,?_⟩⟩
  by_cases hroom:n+m≤cap
  ·have hfit:n*i.size+news.length≤cur.size:=by rw [hl,hcs,←Nat.add_mul];exact Nat.mul_le_mul_right _ hroom
   rw [run_append_room (P:=P) w t ty e i ht hi g n cap cur hg a m c news hl hnews h1 hroom hfit] at hrun
   injection hrun with _ hrun
   subst hrun
   have hns:n*i.size≤cur.toList.length:=by rw [Array.length_toList];omega
   refine ⟨_,rfl,hbg,setRow_heap w g cur _ e _ hg,hnc,hcm,?_,?_⟩
   ·simp only [List.size_toArray,List.length_append,List.length_take,List.length_drop,Array.length_toList]
    omega
   ·rw [List.append_assoc,List.take_append_of_le_length (by rw [List.length_take];omega),List.take_take,Nat.min_self]
    exact htake
  ·have holds:∀ j u,xs[j]?=some u→w.cell? ((⟨g,0,none⟩:Addr).add j)=some u:=hown.cells (g:=g) rfl
   rw [run_append_grow (P:=P) w t ty e i z ht hi hz ⟨g,0,none⟩ n cap xs hown.1 holds a m c news hl hnews (by omega) (by omega) (growslice_fits (by omega) hbytes)] at hrun
   injection hrun with _ hrun
   subst hrun
   exact ⟨cur,rfl,hbg,(Below.heap_alloc w.drew _ _ (za3 hg)).trans hg,hnc,hcm,hcs,htake⟩
theorem zf6 {P:Program} (w:World) {ops:Array Oper} {o:Oper} {a:Act} {K:Act→World→Prop} {Q:Exit→Act→World→Prop} {E:Prop} (hgd:o.guard=none) (s x:Operand) (t:TypeId)
  (ho:o.op=.call { callee:=.builtin .append,args:=#[s,x],argTypes:=#[t,t] })
  (base:Nat) (e:TypeId) (i:TypeInfo) (z:Value) (size bytes:Nat) (ht:P.underlying t=some (.slice e)) (hi:P.info? e=some i) (hz:i.zero=some z)
  (hsize:i.size=size) (hby:i.bytes=bytes) (hzs:z.cells.size=size) (hsz:0<size)
  (v:Value) (n:Nat) (xs:List Value) (hs:a.eval s=v) (hown:w.ownsRow base e size v n xs)
  (ad:Addr) (m c:Nat) (news:List Value) (hx:a.eval x=.slice (some ad) m c) (hl:news.length=m*size) (hnews:∀ j u,news[j]?=some u→w.cell? (ad.add j)=some u) (h1:∀ u∈news,u.oneCell'=true)
  (hm:0<m) (h63:n+m≤maxLen) (hbytes:(n+m)*bytes≤140737488355328) (hbase:base≤w.heap.size) (H:Nat) (hH:w.heap.size=H)
  (h:∀ g cap w',w'.ownsRow base e size (.slice (some ⟨g,0,none⟩) (n+m) cap) (n+m) (xs++news)→w.grownBy w' v.ownBlock→(v.ownBlock=some g∨g=H)→g<w'.heap.size→w'.ownsRow base e size v n xs→K (a.put o.dst (.slice (some ⟨g,0,none⟩) (n+m) cap)) w') :
  if Region.wanted o (yielded ops a.tmps)=true then Oper.wp P o a w K Q else E:=by
 have hw:Region.wanted o (yielded ops a.tmps)=true:=by simp [Region.wanted,hgd]
 rw [if_pos hw]
 obtain ⟨g,cap,w',hr,h2,h3,h4,h5⟩:=run_append_lies (P:=P) w t o.type base e i z size bytes ht hi hz hsize hby hzs hsz v n xs hown ad m c news hl hnews h1 hm h63 hbytes hbase H hH
 have h6:=zm1 ht hi hz hsize hby hown hl hnews h1 h63 hbytes hr
 unfold Oper.wp execOp
 simp only [ho,resolve,invoke,builtin,Sem.run_bind,Sem.run_pure,Result.andThen_ok,List.map_toArray,List.map_cons,List.map_nil,hs,hx,hr]
 exact h g cap w' h2 h3 h4 h5 h6
def slO (a:Nat→Option Addr) (n c:Nat→Nat) (j:Nat):Value:=.slice (a j) (n j) (c j)
structure GR (W w:World) (B k:Nat) (a:Nat→Option Addr) (n c:Nat→Nat) (u:Nat→Value) (m:Nat→Nat):Prop where
 row:∀ j,j<7→w.ownsRow B (TY7 j) (SZ7 j) (u j) (m j) (rep (m j) (wdM k j))
 ge:∀ j,j<7→n j≤m j
 loc:∀ j,j<7→(u j).ownBlock=(slO a n c j).ownBlock∨∃ b,(u j).ownBlock=some b∧W.heap.size≤b
 ds:∀ j j',j<7→j'<7→j≠j'→∀ b,(u j).ownBlock=some b→(u j').ownBlock≠some b
 d0:∀ j j',j<7→j'<7→j≠j'→∀ b,(slO a n c j).ownBlock=some b→(slO a n c j').ownBlock≠some b
 lt:∀ j,j<7→∀ b,(slO a n c j).ownBlock=some b→b<W.heap.size
 z0:∀ j,j<7→∀ b o y,a j=some ⟨b,o,y⟩→o=0
 old:MkS w k a n
 bel:Below B W w
 le:B≤W.heap.size
 fr:∀ b,b<W.heap.size→(∀ j,j<7→(slO a n c j).ownBlock≠some b)→w.heap[b]?=W.heap[b]?
theorem GR.call {W w w':World} {B k:Nat} {a:Nat→Option Addr} {n c:Nat→Nat} {u:Nat→Value} {m:Nat→Nat} (h:GR W w B k a n c u m) (hk:Ok w w'):GR W w' B k a n c u m :=
 { h with
  row:=fun j hj=>za1 (h.row j hj) hk
  old:=h.old.below hk
  bel:=h.bel.trans (Below.mono hk (Nat.le_trans h.le h.bel.size))
  fr:=fun b hb hn=>(Below.block hk b (Nat.lt_of_lt_of_le hb h.bel.size)).trans (h.fr b hb hn) }
theorem GR.set {W w:World} {B k g:Nat} {a:Nat→Option Addr} {n c:Nat→Nat} {u:Nat→Value} {m:Nat→Nat} (h:GR W w B k a n c u m) (hg:W.heap.size≤g) (hn:∀ j,j<7→(u j).ownBlock≠some g) (i:Nat) (v:Value):GR W (w.setCell ⟨g,i,none⟩ v) B k a n c u m :=
 { h with
  row:=fun j hj=>zd2 (h.row j hj) fun b hb=>Below.heap_setCell _ _ _ _ (fun e=>hn j hj (by have e2:b=g:=e;rw [←e2];exact hb))
  old:=⟨h.old.le,fun j hj i' hi=>by
   obtain ⟨b,o,e,hl,hc⟩:=h.old.at' j hj i' hi
   have hb:b<W.heap.size:=h.lt j hj b (by unfold slO;rw [e];rfl)
   refine ⟨b,o,e,by simpa using hl,fun t x ht=>?_⟩
   rw [World.cell?_of_block (w:=w) (a:=⟨b,_,none⟩) (Below.heap_setCell _ _ _ _ (show b≠g by omega))]
   exact hc t x ht⟩
  bel:=h.bel.setCell (p:=⟨g,i,none⟩) (Nat.le_trans h.le hg) v
  fr:=fun b hb hn=>(Below.heap_setCell _ _ _ _ (show b≠g by omega)).trans (h.fr b hb hn) }
theorem GR.app {W w w':World} {B k:Nat} {a:Nat→Option Addr} {n c:Nat→Nat} {u:Nat→Value} {m:Nat→Nat} (h:GR W w B k a n c u m) {j g cap:Nat} (hj:j<7)
  (h1:w'.ownsRow B (TY7 j) (SZ7 j) (.slice (some ⟨g,0,none⟩) (m j+1) cap) (m j+1) (rep (m j) (wdM k j)++wdM k j)) (h2:w.grownBy w' (u j).ownBlock) (h3:(u j).ownBlock=some g∨g=w.heap.size) (h4:w'.ownsRow B (TY7 j) (SZ7 j) (u j) (m j) (rep (m j) (wdM k j))) :
  GR W w' B k a n c (putAt u j (.slice (some ⟨g,0,none⟩) (m j+1) cap)) (putAt m j (m j+1)):=by
 have hz:=h.bel.size
 have blk:∀ b,b<W.heap.size→(∀ j',j'<7→(slO a n c j').ownBlock=some b→j'≠j)→some b≠(u j).ownBlock:=fun b hb hn e=>by
  rcases h.loc j hj with l | ⟨b',l,l2⟩
  ·exact hn j hj (by rw [←l];exact e.symm) rfl
  ·rw [l] at e
   have:=Option.some.inj e
   omega
 refine ⟨fun j' hj'=>?_,fun j' hj'=>?_,fun j' hj'=>?_,fun j1 j2 hj1 hj2 hne b hb=>?_,h.d0,h.lt,h.z0,⟨h.old.le,fun j' hj' i hi=>?_⟩,?_,h.le,fun b hb hn=>?_⟩
 ·by_cases e:j'=j
  ·subst e;simp only [putAt,if_true];rw [zI2];exact h1
  ·simp only [putAt,if_neg e]
   exact zd2 (h.row j' hj') fun b hb=>h2.block b ((h.row j' hj').lt b hb).2 (fun e2=>h.ds j' j hj' hj e b hb e2.symm)
 ·by_cases e:j'=j
  ·subst e;simp only [putAt,if_true];have:=h.ge j' hj';omega
  ·simp only [putAt,if_neg e];exact h.ge j' hj'
 ·by_cases e:j'=j
  ·subst e
   simp only [putAt,if_true]
   rcases h3 with h3 | h3
   ·rcases h.loc j' hj' with l | l
    ·left;rw [←l,h3];rfl
    ·right;rw [h3] at l;exact l
   ·right;exact ⟨g,rfl,by omega⟩
  ·simp only [putAt,if_neg e];exact h.loc j' hj'
 ·have key:∀ j',j'<7→j'≠j→(u j').ownBlock≠some g:=fun j' hj' e e2=>by
   rcases h3 with h3 | h3
   ·exact h.ds j' j hj' hj e g e2 h3
   ·have:=((h.row j' hj').lt g e2).2;omega
  by_cases e1:j1=j
  ·subst e1
   have e2:j2≠j1:=fun e=>hne e.symm
   simp only [putAt,if_true,if_neg e2] at hb ⊢
   have:g=b:=Option.some.inj hb
   subst this
   exact key j2 hj2 e2
  ·by_cases e2:j2=j
   ·subst e2
    simp only [putAt,if_neg e1,if_true] at hb ⊢
    intro e3
    have:g=b:=Option.some.inj e3
    subst this
    exact key j1 hj1 e1 hb
   ·simp only [putAt,if_neg e1,if_neg e2] at hb ⊢
    exact h.ds j1 j2 hj1 hj2 hne b hb
 ·obtain ⟨b,o,e,hl,hc⟩:=h.old.at' j' hj' i hi
  have hob:(slO a n c j').ownBlock=some b:=by unfold slO;rw [e];rfl
  have hbW:=h.lt j' hj' b hob
  refine ⟨b,o,e,Nat.lt_of_lt_of_le hl h2.size,fun t x ht=>?_⟩
  by_cases eb:some b=(u j).ownBlock
  ·have ej:j'=j:=Classical.byContradiction fun ne=>blk b hbW (fun j2 hj2 e2 e3=>by subst e3;exact h.d0 j' j2 hj' hj2 ne b hob e2) eb
   subst ej
   have ho:=h.z0 j' hj' b o none e
   subst ho
   have hu:∃ cp,u j'=.slice (some ⟨b,0,none⟩) (m j') cp:=by
    obtain ⟨g',cp,e5,_⟩:=(h.row j' hj').form (by have:=h.ge j' hj';omega)
    rw [e5] at eb
    have:b=g':=Option.some.inj eb
    exact ⟨cp,by rw [e5,this]⟩
   obtain ⟨cp,hu⟩:=hu
   rw [hu] at h4
   have:=h4.cells (g:=b) rfl _ _ (zW3 (n:=m j') (i:=i) (by have:=h.ge j' hj';omega) ht)
   rw [zc0] at this
   rw [Nat.add_assoc]
   exact this
  ·rw [World.cell?_of_block (w:=w) (a:=⟨b,_,none⟩) (h2.block b hl eb)]
   exact hc t x ht
 ·exact ⟨h2.os.trans h.bel.os,h2.tape.trans h.bel.tape,h2.output.trans h.bel.output,Nat.le_trans hz h2.size,fun b hb=>(h2.block b (Nat.lt_of_lt_of_le hb (Nat.le_trans h.le hz)) (fun e=>by have:=((h.row j hj).lt b e.symm).1;omega)).trans (h.bel.block b hb)⟩
 ·exact (h2.block b (Nat.lt_of_lt_of_le hb hz) (blk b hb fun j' hj' e=>absurd e (hn j' hj'))).trans (h.fr b hb hn)
theorem zg2 {P:Program} (w:World) {ops:Array Oper} {rest:List Oper} {o:Oper} {a:Act} {Q:Exit→Act→World→Prop} (hgd:o.guard=none) (s x:Operand) (t:TypeId)
  (ho:o.op=.call { callee:=.builtin .append,args:=#[s,x],argTypes:=#[t,t] })
  (base:Nat) (e:TypeId) (i:TypeInfo) (z:Value) (size bytes:Nat) (ht:P.underlying t=some (.slice e)) (hi:P.info? e=some i) (hz:i.zero=some z)
  (hsize:i.size=size) (hby:i.bytes=bytes) (hzs:z.cells.size=size) (hsz:0<size)
  (v:Value) (n:Nat) (xs:List Value) (hs:a.eval s=v) (hown:w.ownsRow base e size v n xs)
  (ad:Addr) (m c:Nat) (news:List Value) (hx:a.eval x=.slice (some ad) m c) (hl:news.length=m*size) (hnews:∀ j u,news[j]?=some u→w.cell? (ad.add j)=some u) (h1:∀ u∈news,u.oneCell'=true)
  (hm:0<m) (h63:n+m≤maxLen) (hbytes:(n+m)*bytes≤140737488355328) (hbase:base≤w.heap.size)
  (h:∀ g cap w',w'.ownsRow base e size (.slice (some ⟨g,0,none⟩) (n+m) cap) (n+m) (xs++news)→w.grownBy w' v.ownBlock→(v.ownBlock=some g∨g=w.heap.size)→w'.ownsRow base e size v n xs→wpList P ops Q rest (a.put o.dst (.slice (some ⟨g,0,none⟩) (n+m) cap)) w'):wpList P ops Q (o::rest) a w:=by
 refine wpList_plain hgd fun K hK=>?_
 obtain ⟨g,cap,w',hr,h2,h3,h4,h5⟩:=run_append_lies (P:=P) w t o.type base e i z size bytes ht hi hz hsize hby hzs hsz v n xs hown ad m c news hl hnews h1 hm h63 hbytes hbase w.heap.size rfl
 have h6:=zm1 ht hi hz hsize hby hown hl hnews h1 h63 hbytes hr
 unfold Oper.wp execOp
 simp only [ho,resolve,invoke,builtin,Sem.run_bind,Sem.run_pure,Result.andThen_ok,List.map_toArray,List.map_cons,List.map_nil,hs,hx,hr]
 exact hK _ _ (h g cap w' h2 h3 h4 h6)
theorem zI4:∀ j,j<7→TY7 j≠42:=by decide
theorem GR.ne {W w:World} {B k g:Nat} {a:Nat→Option Addr} {n c:Nat→Nat} {u:Nat→Value} {m:Nat→Nat} {cs:Array Value} (h:GR W w B k a n c u m) (hb:w.heap[g]?=some (.cells cs 42 (0,0))):∀ j,j<7→(u j).ownBlock≠some g:=fun j hj e=>by
 rcases (h.row j hj).2 with ⟨e1,_⟩ | ⟨g',cap',cur,e1,h1,h2,_⟩
 ·rw [e1] at e;cases e
 ·rw [e1] at e
  have:g'=g:=Option.some.inj e
  subst this
  rw [hb] at h2
  injection h2 with h2
  injection h2 with _ h3
  exact zI4 j hj h3.symm
theorem GR.step {W w w':World} {B k gl gr:Nat} {a:Nat→Option Addr} {n c:Nat→Nat} {u:Nat→Value} {m:Nat→Nat} {cs ds:Array Value} (h:GR W w B k a n c u m) (hb:w.heap[gl]?=some (.cells cs 42 (0,0))) (hr:w.heap[gr]?=some (.cells ds 42 (0,0))) (hgl:W.heap.size≤gl) (hne:gr≠gl) {j g cap l:Nat} {v:Value} (q:Nat) (hj:j<7) (hv:u j=v) (hl:m j=l)
  (h1:w'.ownsRow B (TY7 j) (SZ7 j) (.slice (some ⟨g,0,none⟩) (l+1) cap) (l+1) (rep l (wdM k j)++wdM k j)) (h2:w.grownBy w' v.ownBlock) (h3:v.ownBlock=some g∨g=w.heap.size) (h4:w'.ownsRow B (TY7 j) (SZ7 j) v l (rep l (wdM k j))) :
  GR W (w'.setCell ⟨gl,q,none⟩ (.slice (some ⟨g,0,none⟩) (l+1) cap)) B k a n c (putAt u j (.slice (some ⟨g,0,none⟩) (l+1) cap)) (putAt m j (l+1))∧(w'.setCell ⟨gl,q,none⟩ (.slice (some ⟨g,0,none⟩) (l+1) cap)).heap[gl]?=some (.cells (cs.setIfInBounds q (.slice (some ⟨g,0,none⟩) (l+1) cap)) 42 (0,0))∧(w'.setCell ⟨gl,q,none⟩ (.slice (some ⟨g,0,none⟩) (l+1) cap)).heap[gr]?=some (.cells ds 42 (0,0))∧w'.heap[gl]?=some (.cells cs 42 (0,0)):=by
 subst hv hl
 have k1:w'.heap[gl]?=some (.cells cs 42 (0,0)):=(h2.block gl (za3 hb) (fun e=>h.ne hb j hj e.symm)).trans hb
 have k2:w'.heap[gr]?=some (.cells ds 42 (0,0)):=(h2.block gr (za3 hr) (fun e=>h.ne hr j hj e.symm)).trans hr
 have h5:=h.app hj h1 h2 h3 h4
 exact ⟨h5.set hgl (h5.ne k1) q _,heap_setCell_same w' gl q cs 42 _ k1,(Below.heap_setCell _ _ _ _ hne).trans k2,k1⟩
end Go.Proofs.YtgobgdljckamkaaGreatDoor
