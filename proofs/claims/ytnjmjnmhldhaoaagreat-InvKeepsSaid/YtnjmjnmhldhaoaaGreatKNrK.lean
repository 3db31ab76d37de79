import Derived.Deep.DeepHandedRow
import Derived.Deep.DeepWitnessRowRef
import Derived.JoinedCond
import Derived.Stop.Joined
import Derived.Deep.Cut
import Derived.Deep.CutRange
import Derived.Test.YtnjmjnmhldhaoaaGreatKXu
set_option linter.all false
namespace Go.Proofs.YtnjmjnmhldhaoaaGreat
open Go.ChangeShapes Go.WideShapes Go.ChangeAt Go.RowKit Go.Deep
theorem own:ownKnob Tryz.prog.godebug=none:=by kernel_rfl
set_option maxRecDepth 100000 in
theorem laidOut:laidOutB Tryz.prog=true:=by kernel_rfl
namespace invKeeps
set_option maxRecDepth 100000 in
theorem contract (H:Type) (enc:TypeId×Value->H) (W:World) (base:Nat) (args:Array Value) (ds gs:List (DataW H)) (before:List MemPlace)
  (hval:∀ (j:Nat) t v,Tryz.f3.params[j]?=some t->args[j]?=some v->Value.okWide Tryz.prog W .any base t v)
  (hW:DataW.Whole enc Tryz.prog Tryz.f3.params.toList Rows.invKeepsSpec.vars false W args.toList ds gs before) (hk:(DataW.weightsEach Tryz.prog (Tryz.f3.params.toList++(OpenSpec.ofChange Rows.invKeepsSpec).bare.plain.varTypes Tryz.prog) (ds++gs)).all (·<=reachBytes)=true) :
  Calls Tryz.prog 3 args W fun e W'=>∃ v,e=.returned v/\Rows.invKeepsSpec.post enc Tryz.prog Tryz.f3 false true false false W args v W':=by
 have hW':=hW
 obtain ⟨p,q,hA0,hV,rfl,hfz,hnd⟩:=hW
 have hA:DataW.TrodAll enc Tryz.prog W 0 (fun _=>true) true Tryz.f3.params.toList args.toList ds p:=hA0
 rw [Tryz.params3] at hA hval hk
 obtain ⟨v0,vs0,d0,ds0,p0,q0,hargs,rfl,rfl,h0,r0⟩:=trodAll_cons hA
 obtain ⟨v1,vs1,d1,ds1,p1,q1,rfl,rfl,rfl,h1,r1⟩:=trodAll_cons r0
 obtain ⟨rfl,rfl,rfl⟩:=trodAll_nil r1
 obtain rfl:args=#[v0,v1]:=by cases args;simp_all
 obtain ⟨rfl,rfl⟩:=trodVars_none hV
 have h0k:=h0
 have h1k:=h1
 obtain ⟨x0,rfl,rfl,rfl,w0⟩:=open_int Tryz.underlying22 (hval 0 22 v0 rfl rfl) h0
 obtain ⟨ca,cb,cc,cx,cy,rfl,k0,k1,k2,k3,k4⟩:=oopen_case14 (hval 1 31 v1 rfl rfl) h1
 clear hA0
 simp only [List.append_nil] at hW' hk
 have hlt1:∀ y∈p1,y.block<W.heap.size:=fun y hy=>hW'.lt y (by simp [hy])
 have walk:Calls Tryz.prog 3 #[.int .i64 x0,.agg #[.bool ca.2.2.2.2,.int .i64 ca.1,.int .i64 ca.2.1,.int .u64 (ca.2.2.1:Int),.int .u64 (ca.2.2.2.1:Int),.bool cb.2.2.2.2,.int .i64 cb.1,.int .i64 cb.2.1,.int .u64 (cb.2.2.1:Int),.int .u64 (cb.2.2.2.1:Int),.bool cc.2.2.2.2,.int .i64 cc.1,.int .i64 cc.2.1,.int .u64 (cc.2.2.1:Int),.int .u64 (cc.2.2.2.1:Int),.int .i64 cx,.int .i64 cy]] W fun e w'=>e=.returned (.bool true)/\Below W.heap.size W w':=by
  exact ikeeps_any x0 ca cb cc cx cy k0 k1 k2 k3 k4 W W (Ok.refl _)
 refine walk.mono fun e W' ⟨he,bel⟩=>?_
 subst he
 refine ⟨_,rfl,_,_,_,[],([]++(p1++[])),[],hW',?_,?_,rfl,bel.frame _,fun h=>by cases h⟩
 ·exact trodAll_cons_mk (shut_bool Tryz.underlying4 _) trodAll_mk0
 ·exact (trodAll_cons_mk (shut_int Tryz.underlying22 w0) (trodAll_cons_mk (Below.trod laidOut (by kernel_rfl) (of_decide_eq_true (by kernel_rfl)) h1k bel hlt1) trodAll_mk0))
set_option maxRecDepth 100000 in
theorem lifted (os:Os) (started:os.Started) (H:Type) (enc:TypeId×Value->H) (F:Stop.Interp) :
  ReturnsInHanded {} Tryz.checked os 3 .any ((OpenSpec.ofChange Rows.invKeepsSpec).preRow enc Tryz.prog Tryz.f3 Rows.invKeepsRow.domain false Rows.invKeepsRow.laid) (((OpenSpec.ofChange Rows.invKeepsSpec).at F).post enc Tryz.prog Tryz.f3 false true false false):=by
 obtain ⟨w,tape,i,g1,g2,g3,g4,g5,g6,_⟩:=OpenSpec.witness_stopped (enc:=enc) (C:=Tryz.checked) (os:=os) (f:=3) (fn:=Tryz.f3) (s:=OpenSpec.ofChange Rows.invKeepsSpec) (conds:=Rows.invKeepsRow.domain) (apart:=false) false ⟨#[],#[.int .i64 0,.agg #[.bool false,.int .i64 0,.int .i64 0,.int .u64 0,.int .u64 0,.bool false,.int .i64 0,.int .i64 0,.int .u64 0,.int .u64 0,.bool false,.int .i64 0,.int .i64 0,.int .u64 0,.int .u64 0,.int .i64 0,.int .i64 0]],[]⟩ 8 (by kernel_rfl) (by kernel_rfl) (by kernel_rfl) (by kernel_rfl) (by kernel_rfl) rfl F
 refine returnsInHanded_of_row (C:=Tryz.checked) (s:=OpenSpec.ofChange Rows.invKeepsSpec) own started (by kernel_rfl) Tryz.func3 ⟨w,tape,i,g1,g2,g3,g4,g5,g6⟩ ?_
 intro W base args ds gs before hval hW _ _ hk hL _ _
 exact contract H enc W base args ds gs before hval hW hk
set_option maxRecDepth 100000 in
theorem said:Rows.InvKeepsSaid :=
 OpenClaim.holds_of_cond 3 Tryz.f3 rfl rfl rfl rfl rfl rfl rfl ⟨rfl,rfl,rfl,rfl,rfl⟩ rfl rfl rfl rfl rfl (by kernel_rfl) Tryz.func3 (by kernel_rfl)
  (of_decide_eq_true (by kernel_rfl)) (by unfold Func.isWrapper;first | (rw [if_pos (by decide +kernel)];kernel_rfl) | (rw [if_neg (by decide +kernel)];exact ⟨rfl,rfl⟩))
  (fun os started H enc _ F=>by rw [OpenClaim.pre_eq_preRow];exact lifted os started H enc F)
#print axioms said
end invKeeps
theorem invKeeps_said:Rows.InvKeepsSaid:=invKeeps.said
end Go.Proofs.YtnjmjnmhldhaoaaGreat
