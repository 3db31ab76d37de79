import Derived.Deep.DeepWitnessRowRef
import Derived.Test.YthoegkcpmgalbaaGreatDoorKJo
import Derived.Test.YthoegkcpmgalbaaGreatDoorKYl
set_option linter.all false
set_option maxRecDepth 100000
namespace Go.Proofs.YthoegkcpmgalbaaGreatDoor
open Go.ChangeShapes Go.WideShapes Go.ChangeAt Go.RowKit Go.Deep
open Go.ChangeMaps (open_string shut_string)
def wx2:ownKnob Tryz.prog.godebug=none:=by kernel_rfl
def wv2(os:Os)(args:Array Value):laidMetH Tryz.prog Rows.partSplitsRow.laid ((World.doorLaid Tryz.prog 4000 os).forCall (λ_ _=>0) ⟨#[],args,[]⟩).memory :=
 laidMetH_of_parts3 (fuel:=12) (laidMet_of_run' 12 kR kR) kR kR
def yP6{P:Program}{H:Type}{enc:TypeId×Value->H}{w:World}{t e d:TypeId}(W:P.underlying t=some (.slice e))(K:P.bytesOf e=d){fuel:Nat}{c:Value}{x:DataW H×List MemPlace}(h:DataW.trod enc P w 0 (λ_=>true) true fuel t [c]=some x)(J:(DataW.weights P t x.1).all (·<=reachBytes)=true) :
  ∀X n cap,c=.slice X n cap->n*d<=140737488351232:=by
 intro X n0 cap I;rcases open_slice W h with ⟨Z,_⟩ | ⟨a,o,R,m,n,D,Pl,L,_,hl,hm,G,hx,a1⟩
 ·have O:c=sZ:=by simpa using Z
  rw[O]at I
  injection I with _ e2 _
  subst e2;simp
 simp only[dD]at G;subst G;have O:c=.slice (some a) o m:=by simpa using L
 rw[O]at I
 injection I with _ e2 _
 subst e2;rw[hx]at J;simp only[DataW.weights,W,K,eO,bM,aM,fM]at J;have h1:=cO J.1;have Y:o*d<=(o+(m-o))*d:=fX _ (Nat.le_add_right _ _);exact aH Y h1
def yP1{H:Type}{P:Program}{O J o D:TypeId}{ts:List TypeId}{I K d G:DataW H}{L:List (DataW H)}(h:(DataW.weightsEach P (O::J::o::D::ts) (I::K::d::G::L)).all (·<=reachBytes)=true):(DataW.weights P o d).all (·<=reachBytes)=true/\(DataW.weights P D G).all (·<=reachBytes)=true:=by simp only[DataW.weightsEach,List.all_append,bM]at h;exact⟨h.2.2.1,h.2.2.2.1⟩
def yM3{H:Type}{enc:TypeId×Value->H}{w:World}{r:Reach}{b0:Nat}{v:Value}{d:DataW H}{ps:List MemPlace}(J:Value.okWide Tryz.prog w r b0 24 v)(W:DataW.Trod enc Tryz.prog w 0 (λ_=>true) true 24 v d ps)(R:(DataW.weights Tryz.prog 24 d).all (·<=reachBytes)=true) :
  ∃(c:Nat->Int) (ts:List Int) (tz:Option Addr) (tc:Nat),v=.agg #[nI (c 0),nI (c 1),nI (c 2),nI (c 3),nI (c 4),nI (c 5),.slice tz ts.length tc,nI (c 7),nI (c 8)]/\SL w 1 (.slice tz ts.length tc) ts.length (ilL ts)/\ts.length*8<=140737488351232:=by
 obtain⟨cs,rfl,O⟩:=okWide_struct Tryz.underlying24 J;obtain⟨fuel,hf⟩:=W;obtain⟨xs,m,_,Y,hl,K,D⟩:=DataW.trod_struct Tryz.underlying24 hf;obtain⟨u3,u6,us,uc⟩:=wr8;have I:cs.toList.length=9:=by rw[uc]at O;simpa using O
 have G:(Value.agg cs).cells.toList=cs.toList:=by simp[Value.cells]
 obtain⟨L,hL⟩:=qq (cs.toList);have X:cs=L.toArray:=by rw[hL]
 rw[<-hL]at I G
 match xs,K,L,I with
 | [y0,y1,y2,y3,y4,y5,y6,y7,y8],_,[c0,c1,c2,c3,c4,c5,c6,c7,c8],_ =>
  have o:∀(k:Nat) (t:TypeId) (c:Value) (y:DataW H×List MemPlace),DataW.trod enc Tryz.prog w 0 (λ_=>true) true m t (((Value.agg cs).cells.toList.drop k).take (Tryz.prog.cellsOf t))=some y->Tryz.prog.cellsOf t=1->([c0,c1,c2,c3,c4,c5,c6,c7,c8].drop k).take 1=[c]->DataW.trod enc Tryz.prog w 0 (λ_=>true) true m t [c]=some y:=λk t c y h h1 h2=>by rw[G,h1,h2]at h;exact h
  obtain⟨a0,Z,_,_⟩:=DataW.trod_int Tryz.underlying3 (o 0 3 c0 y0 (D 0 _ rfl) u3 rfl);obtain⟨a1,e1,_,_⟩:=DataW.trod_int Tryz.underlying3 (o 1 3 c1 y1 (D 1 _ rfl) u3 rfl);obtain⟨a2,e2,_,_⟩:=DataW.trod_int Tryz.underlying3 (o 2 3 c2 y2 (D 2 _ rfl) u3 rfl);obtain⟨a3,e3,_,_⟩:=DataW.trod_int Tryz.underlying3 (o 3 3 c3 y3 (D 3 _ rfl) u3 rfl);obtain⟨a4,e4,_,_⟩:=DataW.trod_int Tryz.underlying3 (o 4 3 c4 y4 (D 4 _ rfl) u3 rfl);obtain⟨a5,e5,_,_⟩:=DataW.trod_int Tryz.underlying3 (o 5 3 c5 y5 (D 5 _ rfl) u3 rfl);obtain⟨ts,tz,tc,e6,h6,_⟩:=yB7 Tryz.underlying22 Tryz.underlying2 u6 (o 6 22 c6 y6 (D 6 _ rfl) us rfl);obtain⟨a7,e7,_,_⟩:=DataW.trod_int Tryz.underlying3 (o 7 3 c7 y7 (D 7 _ rfl) u3 rfl);obtain⟨a8,e8,_,_⟩:=DataW.trod_int Tryz.underlying3 (o 8 3 c8 y8 (D 8 _ rfl) u3 rfl);have W:d=.agg [y0.1,y1.1,y2.1,y3.1,y4.1,y5.1,y6.1,y7.1,y8.1]:=by injection Y
  rw[W]at R;simp only[DataW.weights,Tryz.underlying24,dK,eK]at R;simp only[DataW.weightsEach,List.all_append,bM]at R;obtain⟨_,_,_,_,_,_,k6,_⟩:=R;have hb:=yP6 Tryz.underlying22 (show Tryz.prog.bytesOf 2=8 by kernel_rfl) (o 6 22 c6 y6 (D 6 _ rfl) us rfl) k6 _ _ _ e6;simp only[cJ,gK]at Z e1 e2 e3 e4 e5 e7 e8;subst Z e1 e2 e3 e4 e5 e7 e8;subst e6;exact⟨cfN a0 a1 a2 a3 a4 a5 a7 a8,ts,tz,tc,by rw[X];rfl,h6,hb⟩
def zW5:laidOutB Tryz.prog=true:=by kernel_rfl
def zM4(H:Type)(enc:TypeId×Value->H)(W:World)(base:Nat)(args:Array Value)(Y gs:List (DataW H))(wc6:List MemPlace)
  (o:∀(j:Nat) t v,Tryz.f3.params[j]?=some t->args[j]?=some v->Value.okWide Tryz.prog W .any base t v)
  (hW:DataW.Whole enc Tryz.prog Tryz.f3.params.toList Rows.partSplitsSpec.vars false W args.toList Y gs wc6) (R:(DataW.weightsEach Tryz.prog (Tryz.f3.params.toList++(OpenSpec.ofChange Rows.partSplitsSpec).bare.plain.varTypes Tryz.prog) (Y++gs)).all (·<=reachBytes)=true) (hL:laidMetH Tryz.prog Rows.partSplitsRow.laid W) :
  Calls Tryz.prog 3 args W λe L=>∃v,e=.returned v/\Rows.partSplitsSpec.post enc Tryz.prog Tryz.f3 false true false false W args v L:=by
 have D:=hW;obtain⟨p,q,G,hV,rfl,b1,a9⟩:=hW;have hA:DataW.TrodAll enc Tryz.prog W 0 (λ_=>true) true Tryz.f3.params.toList args.toList Y p:=G;rw[Tryz.params3]at hA o R;obtain⟨v0,b0,d0,a4,p0,q0,Z,rfl,rfl,h0,r0⟩:=trodAll_cons hA;obtain⟨v1,a3,d1,a8,p1,q1,rfl,rfl,rfl,h1,r1⟩:=trodAll_cons r0;obtain⟨v2,a6,d2,b2,p2,q2,rfl,rfl,rfl,h2,r2⟩:=trodAll_cons r1;obtain⟨v3,a5,d3,a2,p3,q3,rfl,rfl,rfl,h3,r3⟩:=trodAll_cons r2;obtain⟨rfl,rfl,rfl⟩:=trodAll_nil r3;obtain rfl:args=#[v0,v1,v2,v3]:=by cases args;simp_all
 obtain⟨rfl,rfl⟩:=trodVars_none hV;obtain⟨a0,rfl,rfl,rfl,w0⟩:=open_string Tryz.underlying9 (o 0 9 v0 rfl rfl) h0;obtain⟨x1,rfl,rfl,rfl,w1⟩:=open_int Tryz.underlying3 (o 1 3 v1 rfl rfl) h1;have O:=h2;have K:=h3;obtain⟨c,ts,tz,tc,rfl,a1,a7⟩:=yM3 (o 2 24 v2 rfl rfl) h2 (yP1 R).1;obtain⟨d,us,uz,uc,rfl,X,_⟩:=yM3 (o 3 24 v3 rfl rfl) h3 (yP1 R).2;clear G;simp only[bD]at D;have I:∀y∈p2,y.block<W.heap.size:=λy hy=>D.lt y (by simp[hy]);have J:∀y∈p3,y.block<W.heap.size:=λy hy=>D.lt y (by simp[hy]);refine(yM7 a0 x1 c d ts us tz uz tc uc W (zM3 hL) a1 X oM).mono λe L ⟨he,hg⟩=>?_;subst he;have G:Below W.heap.size W L:=hg;refine⟨_,rfl,_,_,_,[],[]++([]++(p2++(p3++[]))),[],D,?_,?_,rfl,G.frame _,λh=>by cases h⟩
 ·exact trodAll_cons_mk (shut_bool Tryz.underlying4 _) trodAll_mk0
 exact trodAll_cons_mk (shut_string Tryz.underlying9 w0) (trodAll_cons_mk (shut_int Tryz.underlying3 w1) (trodAll_cons_mk (Below.trod zW5 kR (cO kR) O G I) (trodAll_cons_mk (Below.trod zW5 kR (cO kR) K G J) trodAll_mk0)))
def ys7(os:Os){H:Type}(enc:TypeId×Value->H):∃d,DataW.whole enc Tryz.prog ((World.doorLaid Tryz.prog 4000 os).forCall (λ_ _=>0) ⟨#[],#[.string ⟨#[]⟩,.int .i64 0,.agg #[.int .i64 0,.int .i64 0,.int .i64 0,.int .i64 0,.int .i64 0,.int .i64 0,.slice none 0 0,.int .i64 0,.int .i64 0],.agg #[.int .i64 0,.int .i64 0,.int .i64 0,.int .i64 0,.int .i64 0,.int .i64 0,.slice none 0 0,.int .i64 0,.int .i64 0]],[]⟩).memory Tryz.f3.params.toList Rows.partSplitsSpec.vars false (#[Value.string ⟨#[]⟩,.int .i64 0,.agg #[.int .i64 0,.int .i64 0,.int .i64 0,.int .i64 0,.int .i64 0,.int .i64 0,.slice none 0 0,.int .i64 0,.int .i64 0],.agg #[.int .i64 0,.int .i64 0,.int .i64 0,.int .i64 0,.int .i64 0,.int .i64 0,.slice none 0 0,.int .i64 0,.int .i64 0]]).toList 12=some ([.lit (.string []),.lit (.int .i64 0),.agg [.lit (.int .i64 0),.lit (.int .i64 0),.lit (.int .i64 0),.lit (.int .i64 0),.lit (.int .i64 0),.lit (.int .i64 0),.nil,.lit (.int .i64 0),.lit (.int .i64 0)],.agg [.lit (.int .i64 0),.lit (.int .i64 0),.lit (.int .i64 0),.lit (.int .i64 0),.lit (.int .i64 0),.lit (.int .i64 0),.nil,.lit (.int .i64 0),.lit (.int .i64 0)]],[],d) :=
 ⟨[],by kernel_rfl⟩
def yi0(os:Os)(d:os.Started)(H:Type)(enc:TypeId×Value->H)(F:Stop.Interp) :
  ReturnsInHanded {} Tryz.checked os 3 .any ((OpenSpec.ofChange Rows.partSplitsSpec).preRow enc Tryz.prog Tryz.f3 Rows.partSplitsRow.domain false Rows.partSplitsRow.laid) (((OpenSpec.ofChange Rows.partSplitsSpec).at F).post enc Tryz.prog Tryz.f3 false true false false):=by
 obtain⟨D,O⟩:=ys7 os enc
 refine returnsInHanded_of_row (C:=Tryz.checked) (s:=OpenSpec.ofChange Rows.partSplitsSpec) wx2 d kR Tryz.func3
  (witness_row_atRef (enc:=enc) (C:=Tryz.checked) false (World.doorLaid Tryz.prog 4000 os) #[.string ⟨#[]⟩,nI 0,.agg #[nI 0,nI 0,nI 0,nI 0,nI 0,nI 0,sZ,nI 0,nI 0],.agg #[nI 0,nI 0,nI 0,nI 0,nI 0,nI 0,sZ,nI 0,nI 0]] rfl kR kR kR
   (OpenSpec.preRow_of_cond 12 O kR (λk G=>by cases G) kR (wv2 os _))) ?_
 intro W base args K J wc6 o I _ _ G L _ _;exact zM4 H enc W base args K J wc6 o I G L
theorem yB8:Rows.PartSplitsSaid :=
 OpenClaim.holds_of_cond 3 Tryz.f3 rfl rfl rfl rfl rfl rfl rfl ⟨rfl,rfl,rfl,rfl,rfl⟩ rfl rfl rfl rfl rfl kR Tryz.func3 kR
  (of_decide_eq_true (by kernel_rfl)) (by unfold Func.isWrapper;first|(rw[if_pos (by decide +kernel)];kernel_rfl) | (rw[if_neg (by decide +kernel)];exact⟨rfl,rfl⟩))
  (λos started H enc _ F=>by rw[OpenClaim.pre_eq_preRow];exact yi0 os started H enc F)
def ys8(f:FuncId)(D:Func)(J:Tryz.pinned.checked.prog.funcNamed "winnow/winnowlaw20.PartSplits" = some f)(o:Tryz.pinned.checked.prog.funcs[f]?=some D) :
  true=Tryz.pinned.checked.prog.looks []/\∀(j:Nat) t,D.params[j]?=some t->Tryz.pinned.checked.prog.wantsStandIn t=false:=by
 obtain rfl:f=3:=aI ((show Tryz.prog.funcNamed "winnow/winnowlaw20.PartSplits" = some 3 by kernel_rfl).symm.trans J) |>.symm;obtain rfl:D=Tryz.f3:=(aI (Tryz.func3.symm.trans o)).symm;refine ⟨by kernel_rfl,fun j t G=>?_⟩;rw [Tryz.params3] at G;have I:t∈[9,3,24,24]:=by simpa using Array.mem_of_getElem? G
 have d:([9,3,24,24].all λu => !Tryz.prog.wantsStandIn u)=true:=by kernel_rfl
 exact(show Tryz.prog.wantsStandIn t=false by simpa using iC.1 d t I)
theorem yN7:Rows.PartSplitsCardSaid :=
 Claim7.holds_tied_plain_at .later [] _ _ _ _ yB8 (λ_ h=>by cases h) kR (λ_ h=>by cases h) partSplits_row_tie rfl ⟨rfl,rfl⟩ kR rfl ys8 kR
end Go.Proofs.YthoegkcpmgalbaaGreatDoor
