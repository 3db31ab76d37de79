import Derived.Test.YtgobgdljckamkaaGreatDoorKQe
set_option linter.unusedVariables false
set_option linter.unusedSimpArgs false
set_option linter.unnecessarySimpa false
namespace Go.Proofs.YtgobgdljckamkaaGreatDoor
open Go.RowKit
def StretchOK (E:EP) (m:Nat):Prop:=∀ (w:World) (es:List Ed) (p en fol:Nat),EB E w es→(p<en→en≤E.ns.length)→(∀ q,p≤q→q<en→endF E.ns q≤en)→p≤3000→fol≤1000→en≤3000→es.length+2*(en-p)≤100000→E.ns.length+2-p≤m →
 Calls Tryz.prog 41 #[.int .i64 (p:Nat),.int .i64 (en:Nat),.int .i64 (fol:Nat),ptr E.bt,ptr E.bb,ptr E.bc,ptr E.bl,ptr E.bp] w (fun e w'=>e=.returned (.tuple #[])∧∃ l,EB E w' (es++l)∧Below E.B w w'∧l.length≤2*(en-p)∧∀ f,E.ns.length+2-p≤f→stE E.ns f p en fol=l)
theorem EB.cs {E:EP} {w:World} {es:List Ed} (h:EB E w es):w.cell? ⟨E.bt,0,none⟩=some E.v∧w.cell? ⟨E.bp,0,none⟩=some E.pv∧w.cell? ⟨E.bb,0,none⟩=some (.func (.func 38) #[] #[ptr E.bp])∧w.cell? ⟨E.bs,0,none⟩=some (.func (.func 41) #[] #[ptr E.bt,ptr E.bb,ptr E.bc,ptr E.bl,ptr E.bp])∧w.cell? ⟨E.bc,0,none⟩=some (.func (.func 39) #[] #[ptr E.bt,ptr E.bp,ptr E.bb,ptr E.bl,ptr E.bs]) :=
 ⟨(cell_of_row _ _ 0 _ _ _ h.t).trans (by simp),(cell_of_row _ _ 0 _ _ _ h.p).trans (by simp),(cell_of_row _ _ 0 _ _ _ h.b).trans (by simp),(cell_of_row _ _ 0 _ _ _ h.s).trans (by simp),(cell_of_row _ _ 0 _ _ _ h.c).trans (by simp)⟩
def ER (w:World) (g:Nat) (e:Ed):Prop:=w.heap[g]?=some (.cells #[.int .i64 e.from',.int .i64 e.to',.int .i64 e.op,.int .i64 e.place,.bool e.sense,.bool e.loop] 53 (0,0))
theorem ER.cs {w:World} {g:Nat} {e:Ed} (h:ER w g e):w.cell? ⟨g,0,none⟩=some (.int .i64 e.from')∧w.cell? ⟨g,1,none⟩=some (.int .i64 e.to')∧w.cell? ⟨g,2,none⟩=some (.int .i64 e.op)∧w.cell? ⟨g,3,none⟩=some (.int .i64 e.place)∧w.cell? ⟨g,4,none⟩=some (.bool e.sense)∧w.cell? ⟨g,5,none⟩=some (.bool e.loop) :=
 ⟨(cell_of_row _ _ 0 _ _ _ h).trans (by simp),(cell_of_row _ _ 1 _ _ _ h).trans (by simp),(cell_of_row _ _ 2 _ _ _ h).trans (by simp),(cell_of_row _ _ 3 _ _ _ h).trans (by simp),(cell_of_row _ _ 4 _ _ _ h).trans (by simp),(cell_of_row _ _ 5 _ _ _ h).trans (by simp)⟩
theorem ER.to {w:World} {g:Nat} {e:Ed} (h:ER w g e) (v:Int):ER (w.setCell ⟨g,1,none⟩ (.int .i64 v)) g { e with to':=v }:=by
 have:=heap_setCell_same w g 1 _ _ (.int .i64 v) h
 unfold ER;rw [this];simp
theorem ER.sense' {w:World} {g:Nat} {e:Ed} (h:ER w g e) (v:Bool):ER (w.setCell ⟨g,4,none⟩ (.bool v)) g { e with sense:=v }:=by
 have:=heap_setCell_same w g 4 _ _ (.bool v) h
 unfold ER;rw [this];simp
theorem ER.past {w:World} {g g':Nat} {e:Ed} (h:ER w g e) (hn:g≠g') (i:Nat) (v:Value):ER (w.setCell ⟨g',i,none⟩ v) g e:=(Below.heap_setCell w ⟨g',i,none⟩ v g hn).trans h
theorem ER.ok {w w':World} {g:Nat} {e:Ed} (h:ER w g e) (hk:Ok w w'):ER w' g e:=hk.row' h
theorem ER.draws {w:World} {g:Nat} {e:Ed} (h:ER w g e) (n:Nat):ER (w.drewN n) g e:=h
theorem zq0:∀ (ts:List Ed),∀ u∈edL ts,u.oneCell'=true
 | [],u,h=>by simp [edL] at h
 | e::r,u,h=>by
  have:edL (e::r)=edV e++edL r:=rfl
  rw [this,List.mem_append] at h
  rcases h with h | h
  ·simp only [edV,List.mem_cons,List.not_mem_nil,or_false] at h
   rcases h with rfl | rfl | rfl | rfl | rfl | rfl<;>rfl
  ·exact zq0 r u h
theorem zj1 {w:World} {ops:Array Oper} {rest:List Oper} {op:Oper} {a:Act} {Q:Exit→Act→World→Prop} (hgd:op.guard=none) (s x:Operand)
  (ho:op.op=.call { callee:=.builtin .append,args:=#[s,x],argTypes:=#[40,40] })
  (base:Nat) (sv:Value) (A:List Ed) (hs:a.eval s=sv) (hown:w.ownsRow base 53 6 sv A.length (edL A))
  (g:Nat) (ts:List Ed) (hx:a.eval x=.slice (some ⟨g,0,none⟩) ts.length ts.length) (hT:w.heap[g]?=some (.cells (edL ts).toArray 53 (0,0)))
  (hb:A.length+ts.length≤1000000) (hbase:base≤w.heap.size)
  (h:∀ v' w',w'.ownsRow base 53 6 v' (A.length+ts.length) (edL A++edL ts)→w.grownBy w' sv.ownBlock→wpList Tryz.prog ops Q rest (a.put op.dst v') w'):wpList Tryz.prog ops Q (op::rest) a w:=by
 obtain ⟨i,hi,hz,hsz,hby⟩:=ze5 infEd
 refine wpList_append_own_at w hgd s x 40 ho base 53 i _ 6 40 Tryz.underlying40 hi hz hsz hby rfl (by decide) _ _ (edL A) hs hown ⟨g,0,none⟩ ts.length ts.length (edL ts) hx (zU7 ts) (fun j u hj=>?_) (zq0 ts) (by unfold maxLen;omega) (by omega) hbase ?_
 ·rw [zc0,Nat.zero_add,cell_of_row _ _ j _ _ _ hT]
  simpa using hj
 ·intro v' w' k1 k2 k3 k4
  exact h v' w' k1 k2
theorem keepT {w w':World} {B n:Nat} {lv:Value} {xs:List Value} (ho:w.ownsRow B 53 6 lv n xs) (hg:w.grownBy w' lv.ownBlock) {b:Nat} {cs:Array Value} {t:TypeId} (hb:w.heap[b]?=some (.cells cs t (0,0))) (ht:t≠53):w'.heap[b]?=some (.cells cs t (0,0)):=by
 refine (hg.block b (za3 hb) (fun e=>?_)).trans hb
 rcases ho.2 with ⟨rfl,_⟩ | ⟨g,cap,cur,rfl,_,hgg,_⟩
 ·cases e
 ·have e':b=g:=Option.some.inj e
  subst e'
  have h2:=hgg.symm.trans hb
  injection h2 with h2
  injection h2 with _ h3 _
  exact ht h3.symm
theorem zU9 {E:EP} {w3 w8:World} {es:List Ed} {lv:Value} {g1:Nat} {v:Value} (e1 e2:Ed) (hE:EPok E) (H3:EB E w3 es) (hl:w3.heap[E.bl]?=some (.cells #[lv] 40 (0,0))) (ho:w3.ownsRow E.B 53 6 lv es.length (edL es)) (hk:Ok w3 w8) (hg:w3.heap.size≤g1) (W:World) (hW:W=(w8.setCell ⟨g1,1,none⟩ v).alloc (.cells #[.int .i64 e1.from',.int .i64 e1.to',.int .i64 e1.op,.int .i64 e1.place,.bool e1.sense,.bool e1.loop,.int .i64 e2.from',.int .i64 e2.to',.int .i64 e2.op,.int .i64 e2.place,.bool e2.sense,.bool e2.loop] 53)) :
  W.ownsRow E.B 53 6 lv es.length (edL es)∧W.heap[w8.heap.size]?=some (.cells (edL [e1,e2]).toArray 53 (0,0))∧E.B≤W.heap.size ∧
  ∀ v9 w9,w9.ownsRow E.B 53 6 v9 (es.length+2) (edL es++edL [e1,e2])→W.grownBy w9 lv.ownBlock→EB E (w9.setCell ⟨E.bl,0,none⟩ v9) (es++[e1,e2])∧Below E.B w3 (w9.setCell ⟨E.bl,0,none⟩ v9)∧w9.heap[E.bl]?=some (.cells #[lv] 40 (0,0))∧w9.heap[E.bs]?=some (.cells #[.func (.func 41) #[] #[ptr E.bt,ptr E.bb,ptr E.bc,ptr E.bl,ptr E.bp]] 96 (0,0)):=by
 have hkW:Ok w3 W:=by rw [hW];exact (hk.set (p:=⟨g1,1,none⟩) hg _).alloc _
 have hBl:=hE.lo.2.2.1
 have hlt:=za3 hl
 have h1:=za1 ho hkW
 have HW:=H3.ok hkW
 have hlW:=hkW.row' hl
 refine ⟨h1,?_,Nat.le_trans hBl (Nat.le_of_lt (za3 hlW)),fun v9 w9 k1 k2=>?_⟩
 ·rw [hW];exact zd0 _ _ _ (by simp [World.setCell])
 ·have hx:=EB.more (es2:=[e1,e2]) HW hE hlW h1 k2 k1
  exact ⟨hx.1,(Below.mono hkW (by omega)).trans hx.2,keepT h1 k2 hlW (by decide),keepT h1 k2 HW.s (by decide)⟩
end Go.Proofs.YtgobgdljckamkaaGreatDoor
