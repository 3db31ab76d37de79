import Derived.Deep.Cut
import Derived.Deep.CutRange
import Derived.Test.YtnjmjnmhldhaoaaGreatKXRoot
set_option linter.all false
namespace Go.Proofs.YtnjmjnmhldhaoaaGreat
open Go Go.RowKit
section
variable {P:Program} {ops:Array Oper} {Q:Exit->Act->World->Prop} {md:Region.Mode} {S:World->Prop} {n:Nat}
def wpAnyT (P:Program) (md:Region.Mode) (ops:Array Oper) (Q:Exit->Act->World->Prop) (S:World->Prop) (n:Nat):Nat->Array Bool->Act->World->Prop
 | 0,listed,a,w=>Region.ready md ops listed=[]/\Q .normal a w
 | fuel+1,listed,a,w =>
  (Region.ready md ops listed=[]->Q .normal a w) /\
  ∀ i∈Region.ready md ops listed,wpOp P ops Q i (fun a' w'=>(i<n->S w')/\wpAnyT P md ops Q S n fuel (listed.setIfInBounds i true) a' w') a w
theorem wpAny_of_T:∀ (fuel:Nat) (listed:Array Bool) (a:Act) (w:World),wpAnyT P md ops Q S n fuel listed a w->wpAny P md ops Q fuel listed a w
 | 0,_,_,_,h=>h
 | fuel+1,_,_,_,h=>⟨h.1,fun i hi=>wpOp_mono (fun a' w' h'=>wpAny_of_T fuel _ a' w' h'.2) (h.2 i hi)⟩
def Clo (md:Region.Mode) (ops:Array Oper) (listed:Array Bool):Prop:=∀ (j:Nat) (o:Oper),ops[j]?=some o->listed.getD j false=true->∀ e∈o.after,Region.binds md e=true->listed.getD e.on false=true
def cloB (md:Region.Mode) (ops:Array Oper) (listed:Array Bool):Bool:=(List.range ops.size).all fun j => !(listed.getD j false)||(match ops[j]? with | some o=>o.after.all fun e => !(Region.binds md e)||listed.getD e.on false | none=>true)
theorem cloB_spec {listed:Array Bool} (h:cloB md ops listed=true):Clo md ops listed:=by
 intro j o hj hl e he hb
 have hs:j<ops.size:=(Array.getElem?_eq_some_iff.1 hj).1
 have h1:=List.all_eq_true.1 h j (List.mem_range.2 hs)
 rw [hl,hj] at h1
 simp only [Bool.not_true,Bool.false_or] at h1
 have h2:=(Array.all_eq_true'.1 h1) e he
 rw [hb] at h2
 simpa using h2
def waitT (md:Region.Mode) (ops:Array Oper):Nat->Nat->Nat->Bool
 | 0,_,_=>false
 | f+1,j,i=>match ops[j]? with
  | some o=>o.after.any fun e=>Region.binds md e&&((e.on==i)||waitT md ops f e.on i)
  | none=>false
theorem Clo.reach {listed:Array Bool} (h:Clo md ops listed):∀ (f j i:Nat),waitT md ops f j i=true->listed.getD j false=true->listed.getD i false=true
 | 0,_,_,hw,_=>by cases hw
 | f+1,j,i,hw,hl=>by
  unfold waitT at hw
  split at hw
  ·rename_i o ho
   rw [Array.any_eq_true'] at hw
   obtain ⟨e,he,h2⟩:=hw
   simp only [Bool.and_eq_true,Bool.or_eq_true,beq_iff_eq] at h2
   have hl2:=h j o ho hl e he h2.1
   rcases h2.2 with h3 | h3
   ·subst h3;exact hl2
   ·exact Clo.reach h f _ _ h3 hl2
  ·cases hw
theorem Clo.ready {listed:Array Bool} (h:Clo md ops listed) {f j i:Nat} (hw:waitT md ops f j i=true) (hr:j∈Region.ready md ops listed):listed.getD i false=true:=by
 obtain ⟨_,oj,hoj,hall⟩:=mem_ready.1 hr
 cases f with
 | zero=>cases hw
 | succ f =>
  unfold waitT at hw
  rw [hoj] at hw
  simp only [Array.any_eq_true',Bool.and_eq_true,Bool.or_eq_true,beq_iff_eq] at hw
  obtain ⟨e,he,h2⟩:=hw
  have hl2:=hall e he h2.1
  rcases h2.2 with h3 | h3
  ·subst h3;exact hl2
  ·exact h.reach f _ _ h3 hl2
theorem Clo.next {listed:Array Bool} (h:Clo md ops listed) {j:Nat} (hr:j∈Region.ready md ops listed):Clo md ops (listed.setIfInBounds j true):=by
 obtain ⟨_,oj,hoj,hall⟩:=mem_ready.1 hr
 have up:∀ m,listed.getD m false=true->(listed.setIfInBounds j true).getD m false=true:=fun m hm=>by
  by_cases e:j=m
  ·subst e
   have:j<listed.size:=by
    rcases Nat.lt_or_ge j listed.size with h1 | h1
    ·exact h1
    ·simp [Array.getElem?_eq_none h1] at hm
   simp [this]
  ·rw [getD_set_ne false e];exact hm
 intro k ok hk hl e he hb
 by_cases c:j=k
 ·subst c
  rw [hoj] at hk
  cases hk
  exact up _ (hall e he hb)
 ·rw [getD_set_ne false c] at hl
  exact up _ (h k ok hk hl e he hb)
theorem wpAnyT_first {i:Nat} {oi:Oper} {v:Value} (hi:ops[i]?=some oi) (hsel:∀ (j:Nat) (o:Oper) cs b,ops[j]?=some o->o.op≠.select cs b)
  (hw:∀ j,n<=j->j<ops.size->j≠i->waitT md ops ops.size j i=true)
  (hQ:∀ c a w,Q (.panic c) (a.put oi.dst v) w->Q (.panic c) a w) :
  ∀ (fuel:Nat) (listed:Array Bool) (a:Act) (w:World),Clo md ops listed ->
   (∀ j oj,ops[j]?=some oj->j≠i->listed.getD j true=false->(∀ e∈oj.after,Region.binds md e=true->e.on≠i)->oi.apart ops oj=true) ->
   i∈Region.ready md ops listed->YieldsIf P ops S oi v a->S w ->
   wpAnyT P md ops Q S n fuel (listed.setIfInBounds i true) (a.put oi.dst v) w->wpAnyT P md ops Q S n (fuel+1) listed a w:=by
 intro fuel
 induction fuel with
 | zero =>
  intro listed a w _ _ hr hy hS H
  refine ⟨fun h=>(by rw [h] at hr;cases hr),fun j hj=>?_⟩
  by_cases hji:j=i
  ·subst hji;exact hy.wpOp hi hS ⟨fun _=>hS,H⟩
  ·have:=ready_mono hj hji
   rw [H.1] at this
   cases this
 | succ fuel ih =>
  intro listed a w hcl hfree hr hy hS H
  refine ⟨fun h=>(by rw [h] at hr;cases hr),fun j hj=>?_⟩
  by_cases hji:j=i
  ·subst hji;exact hy.wpOp hi hS ⟨fun _=>hS,H⟩
  ·have h1:=H.2 j (ready_mono hj hji)
   obtain ⟨hjun,oj,hoj,hall⟩:=mem_ready.1 hj
   have hnl:¬listed.getD i false=true:=fun h9=>by
    have h0:=(mem_ready.1 hr).1
    rcases Nat.lt_or_ge i listed.size with h' | h'
    ·simp [h'] at h0 h9;rw [h0] at h9;cases h9
    ·simp [Array.getElem?_eq_none h'] at h9
   have hnot:∀ e∈oj.after,Region.binds md e=true->e.on≠i:=fun e he hb heq=>hnl (heq ▸ hall e he hb)
   have hjn:j<n:=by
    rcases Nat.lt_or_ge j n with h' | h'
    ·exact h'
    ·exact absurd (hcl.ready (hw j h' (Array.getElem?_eq_some_iff.1 hoj).1 hji) hj) hnl
   have h2:=wpOp_putIf hoj (hfree j oj hoj hji hjun hnot) (fun cs b=>hsel i oi cs b hi) (fun cs b=>hsel j oj cs b hoj) hQ hy h1
   have hfree':∀ k ok,ops[k]?=some ok->k≠i->(listed.setIfInBounds j true).getD k true=false ->
     (∀ e∈ok.after,Region.binds md e=true->e.on≠i)->oi.apart ops ok=true:=fun k ok hk hki hun hno=>by
    refine hfree k ok hk hki ?_ hno
    by_cases hjk:j=k
    ·subst hjk;exact hjun
    ·rw [getD_set_ne true hjk] at hun;exact hun
   refine wpOp_mono (fun a' w' h3=>⟨h3.2.1,ih (listed.setIfInBounds j true) a' w' (hcl.next hj) hfree' (ready_mono hr (Ne.symm hji)) h3.1 (h3.2.1 hjn) ?_⟩) h2
   rw [Array.setIfInBounds_comm _ _ hji]
   exact h3.2.2
theorem tT (i:Nat) (v:Value) {oi:Oper} {fuel:Nat} {listed:Array Bool} {a:Act} {w:World} (hS:S w) (hy:∀ w',S w'->Sem.run P (execOp a.eval oi) w'=Result.ok (Next.value v) w')
  (h:wpAnyT P md ops Q S n fuel (listed.setIfInBounds i true) (a.put oi.dst v) w) (hi:ops[i]?=some oi:=by rfl)
  (hs:Region.noSelect ops=true:=by kernel_rfl) (hf:Region.free md ops listed i=true:=by kernel_rfl) (hr:(Region.ready md ops listed).contains i=true:=by kernel_rfl)
  (hn:((List.range ops.size).all fun j=>decide (j<n)||(j==i)||waitT md ops ops.size j i)=true:=by kernel_rfl) (hc:cloB md ops listed=true:=by kernel_rfl)
  (hw:Region.wanted oi (yielded ops a.tmps)=true:=by rfl) (hQ:∀ c a w,Q (.panic c) (a.put oi.dst v) w->Q (.panic c) a w:=by exact fun _ _ _ h=>h):wpAnyT P md ops Q S n (fuel+1) listed a w :=
 wpAnyT_first hi (Region.noSelect_spec hs) (fun j h1 h2 h3=>by
  have h4:=List.all_eq_true.1 hn j (List.mem_range.2 h2)
  simp only [Bool.or_eq_true,decide_eq_true_eq,beq_iff_eq] at h4
  rcases h4 with (h5 | h5) | h5
  ·omega
  ·exact absurd h5 h3
  ·exact h5) hQ fuel listed a w (cloB_spec hc) (Region.free_spec hi hf) (by simpa using hr) (Or.inl ⟨hw,hy⟩) hS h
theorem sT {i:Nat} {o:Oper} {fuel:Nat} {listed:Array Bool} {a:Act} {w:World} (hr:Region.ready md ops listed=[i]) (ho:ops[i]?=some o)
  (h:∀ K':Act->World->Prop,Shut (∀ a w,(i<n->S w)->wpAnyT P md ops Q S n fuel (listed.setIfInBounds i true) a w->K' a w)->if Region.wanted o (yielded ops a.tmps)=true then Oper.wp P o a w K' Q else K' (a.put o.dst undef) w) :
  wpAnyT P md ops Q S n (fuel+1) listed a w:=by
 refine ⟨fun h0=>(by rw [hr] at h0;cases h0),fun j hj=>?_⟩
 rw [hr,List.mem_singleton] at hj
 subst hj
 exact wpOp_step ho (fun K' hK=>h K' (fun a w hS hW=>hK a w ⟨hS,hW⟩))
theorem wpAnyT_done {listed:Array Bool} {a:Act} {w:World} (hr:Region.ready md ops listed=[]) (h:Q .normal a w) :
  ∀ fuel,wpAnyT P md ops Q S n fuel listed a w
 | 0=>⟨hr,h⟩
 | _+1=>⟨fun _=>h,by rw [hr];simp⟩
theorem wp_region_T {id:Nat} {a:Act} {w:World} (S:World->Prop) (n:Nat) (hm:P.follows .mixedOrders=true)
  (h:wpAnyT P .any ops Q S n ops.size (Array.replicate ops.size false) a w.drew):(Code.region id ops true).wp P Q a w :=
 wp_region_any hm (wpAny_of_T _ _ _ _ h)
end
theorem yN {o:Oper} {a:Act} {w:World} {x:Operand} {g:Nat} {v0 v1 v2 v3 v4:Value} (hg:w.heap[g]?=some (.cells #[v0,v1,v2,v3,v4] 29 (0,0))) (ho:o.op=.load 29 x:=by rfl) (hx:a.eval x=.pointer (some ⟨g,0,none⟩):=by rfl):Sem.run Tryz.prog (execOp a.eval o) w=.ok (.value (.agg #[v0,v1,v2,v3,v4])) w:=by
 unfold execOp
 simp only [ho,hx,Instr.loadAt,Instr.sureAddr,Sem.run_bind,Sem.run_pure,Result.andThen_ok,run_loadVar_row (P:=Tryz.prog) w g 29 29 _ (0,0) _ hg Tryz.underlying29 rfl infoN]
theorem yC {o:Oper} {a:Act} {w:World} {x:Operand} {ty:TypeId} {ad:Addr} {v:Value} (hc:w.cell? ad=some v) (ho:o.op=.load ty x:=by rfl) (hx:a.eval x=.pointer (some ad):=by rfl) (hag:∀ w,(isAgg ty).run Tryz.prog w=.ok false w:=by intro w;kernel_rfl):Sem.run Tryz.prog (execOp a.eval o) w=.ok (.value v) w:=by
 unfold execOp
 simp only [ho,hx,Instr.loadAt,Instr.sureAddr,Sem.run_bind,Sem.run_pure,Result.andThen_ok,loadVar,hag,Bool.false_eq_true,if_false,run_load,hc]
end Go.Proofs.YtnjmjnmhldhaoaaGreat
