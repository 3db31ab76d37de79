import Derived.Test.YtihdgmiicfbbkaaGreatDoorCards
import Derived.Test.YtihdgmiicfbbkaaGreatDoorTie
import Derived.ProofKit
import Derived.OpenShut
import Derived.LaidMore
import Derived.SevenTiedAt
import Derived.Stop.LaidErr
import Derived.Test.YtihdgmiicfbbkaaGreatDoorKJa
set_option linter.all false
set_option maxRecDepth 100000
namespace Go.Proofs.YtihdgmiicfbbkaaGreatDoor
variable{W:World}{cs:List Value}
open Go.ChangeShapes Go.WideShapes Go.ChangeAt Go.RowKit
theorem own:ownKnob Tryz.prog.godebug=none:=by kernel_rfl
section
variable {H:Type} {enc:TypeId×Value->H} {w:World} {base:Nat} {sp:Nat->Bool} {held:Bool}
theorem cellsA:Tryz.prog.cellsOf 252=1/\Tryz.prog.cellsOf 4=1/\Tryz.prog.cellsOf 2=1/\Tryz.prog.cellsOf 253=2/\Tryz.prog.cellsOf 254=3/\Tryz.prog.cellsOf 5=1/\Tryz.prog.cellsOf 256=9/\Tryz.prog.cellsOf 56=1:=by refine ⟨?_,?_,?_,?_,?_,?_,?_,?_⟩<;>kernel_rfl
theorem cellsB:Tryz.prog.cellsOf 186=2/\Tryz.prog.cellsOf 101=1:=by refine ⟨?_,?_⟩<;>kernel_rfl
theorem yB4 {fuel:Nat} {s:Bool} {l:Int} {p:List MemPlace} (h:DataW.trod enc Tryz.prog w base sp held fuel 186 cs=some (.agg [.lit (.bool s),.lit (.int .i64 l)],p)) :
  cs=[.bool s,nI l]:=by
 obtain ⟨xs,m,_,hx,hl,hlen,hf⟩:=DataW.trod_struct Tryz.underlying186 h;rw [cellsB.1] at hl
 match xs,hlen,cs,hl with
 | [y0,y1],_,[c0,c1],_ =>
  have h0:DataW.trod enc Tryz.prog w base sp held m 4 (([c0,c1].drop 0).take (Tryz.prog.cellsOf 4))=some y0:=hf 0 _ rfl;rw [cellsA.2.1,show ([c0,c1].drop 0).take 1=[c0] from rfl] at h0;have h1:DataW.trod enc Tryz.prog w base sp held m 101 (([c0,c1].drop 1).take (Tryz.prog.cellsOf 101))=some y1:=hf 1 _ rfl;rw [cellsB.2,show ([c0,c1].drop 1).take 1=[c1] from rfl] at h1;obtain ⟨s',e0,r0⟩:=DataW.trod_bool Tryz.underlying4 h0;obtain ⟨l',e1,r1,_⟩:=DataW.trod_int Tryz.underlying101 h1;simp only [List.cons.injEq,and_true] at e0 e1;subst e0 e1 r0 r1;simp only [List.map_cons,List.map_nil,Prod.mk.injEq,DataW.agg.injEq,List.cons.injEq,DataW.lit.injEq,Lit.bool.injEq,Lit.int.injEq,and_true,true_and] at hx;obtain ⟨⟨rfl,rfl⟩,_⟩:=hx;rfl
theorem yB5 {fuel:Nat} {a0 a2 a3 a4 a5 a6 a7 a8:Int} {a1:Bool} {p:List MemPlace}
  (h:DataW.trod enc Tryz.prog w base sp held fuel 256 cs=some (.agg [.lit (.int .u8 a0),.lit (.bool a1),.lit (.int .i64 a2),.agg [.lit (.int .i64 a3),.lit (.int .i64 a4)],.agg [.lit (.int .u8 a5),.lit (.int .u8 a6),.lit (.int .u8 a7)],.lit (.int .u8 a8)],p)) :
  cs=[.int .u8 a0,.bool a1,nI a2,nI a3,nI a4,.int .u8 a5,.int .u8 a6,.int .u8 a7,.int .u8 a8]:=by
 obtain ⟨xs,m,_,hx,hl,hlen,hf⟩:=DataW.trod_struct Tryz.underlying256 h;obtain ⟨c71,c4,c2,c72,c73,c5,c75,c29⟩:=cellsA;rw [c75] at hl
 match xs,hlen,cs,hl with
 | [y0,y1,y2,y3,y4,y5],_,[k0,k1,k2,k3,k4,k5,k6,k7,k8],_ =>
  have h0:DataW.trod enc Tryz.prog w base sp held m 252 (([k0,k1,k2,k3,k4,k5,k6,k7,k8].drop 0).take (Tryz.prog.cellsOf 252))=some y0:=hf 0 _ rfl;rw [c71,show ([k0,k1,k2,k3,k4,k5,k6,k7,k8].drop 0).take 1=[k0] from rfl] at h0;have h1:DataW.trod enc Tryz.prog w base sp held m 4 (([k0,k1,k2,k3,k4,k5,k6,k7,k8].drop 1).take (Tryz.prog.cellsOf 4))=some y1:=hf 1 _ rfl;rw [c4,show ([k0,k1,k2,k3,k4,k5,k6,k7,k8].drop 1).take 1=[k1] from rfl] at h1;have h2:DataW.trod enc Tryz.prog w base sp held m 2 (([k0,k1,k2,k3,k4,k5,k6,k7,k8].drop 2).take (Tryz.prog.cellsOf 2))=some y2:=hf 2 _ rfl;rw [c2,show ([k0,k1,k2,k3,k4,k5,k6,k7,k8].drop 2).take 1=[k2] from rfl] at h2;have h3:DataW.trod enc Tryz.prog w base sp held m 253 (([k0,k1,k2,k3,k4,k5,k6,k7,k8].drop 3).take (Tryz.prog.cellsOf 253))=some y3:=hf 3 _ rfl;rw [c72,show ([k0,k1,k2,k3,k4,k5,k6,k7,k8].drop 3).take 2=[k3,k4] from rfl] at h3;have h4:DataW.trod enc Tryz.prog w base sp held m 254 (([k0,k1,k2,k3,k4,k5,k6,k7,k8].drop 5).take (Tryz.prog.cellsOf 254))=some y4:=hf 4 _ rfl;rw [c73,show ([k0,k1,k2,k3,k4,k5,k6,k7,k8].drop 5).take 3=[k5,k6,k7] from rfl] at h4;have h5:DataW.trod enc Tryz.prog w base sp held m 5 (([k0,k1,k2,k3,k4,k5,k6,k7,k8].drop 8).take (Tryz.prog.cellsOf 5))=some y5:=hf 5 _ rfl;rw [c5,show ([k0,k1,k2,k3,k4,k5,k6,k7,k8].drop 8).take 1=[k8] from rfl] at h5;obtain ⟨z0,e0,r0,_⟩:=DataW.trod_int Tryz.underlying252 h0;obtain ⟨z1,e1,r1⟩:=DataW.trod_bool Tryz.underlying4 h1;obtain ⟨z2,e2,r2,_⟩:=DataW.trod_int Tryz.underlying2 h2;obtain ⟨z8,e8,r8,_⟩:=DataW.trod_int Tryz.underlying5 h5;simp only [List.map_cons,List.map_nil,Prod.mk.injEq,DataW.agg.injEq,List.cons.injEq,and_true] at hx;obtain ⟨⟨hx0,hx1,hx2,hx3,hx4,hx5⟩,_⟩:=hx;have g3:[k3,k4]=[a3,a4].map fun z=>Value.int .i64 z:=Lib.cells_of_tab (p:=y3.2) Tryz.underlying253 Tryz.underlying56 c29 c72 (by rw [h3,show Lib.tabData .i64 [a3,a4]=y3.1 from hx3]);have g4:[k5,k6,k7]=[a5,a6,a7].map fun z=>Value.int .u8 z:=Lib.cells_of_tab (p:=y4.2) Tryz.underlying254 Tryz.underlying252 c71 c73 (by rw [h4,show Lib.tabData .u8 [a5,a6,a7]=y4.1 from hx4]);simp only [List.map_cons,List.map_nil,List.cons.injEq,and_true] at g3 g4 e0 e1 e2 e8;obtain ⟨rfl,rfl⟩:=g3;obtain ⟨rfl,rfl,rfl⟩:=g4;subst e0 e1 e2 e8 r0 r1 r2 r8;simp only [DataW.lit.injEq,Lit.int.injEq,Lit.bool.injEq,true_and] at hx0 hx1 hx2 hx5;subst hx0 hx1 hx2 hx5;rfl
end
def stepData {H:Type}:DataW H:=.agg ((List.range 16).map fun k=>.agg [.lit (.bool (decide (2<=k)&&decide (k<=8))),.lit (.int .i64 (opT.getD k 0))])
def ruleData {H:Type}:DataW H:=.agg ((List.range 16).map fun k=>.agg [.lit (.int .u8 (rSort k)),.lit (.bool (rNamed k)),.lit (.int .i64 (rMost k)),.agg [.lit (.int .i64 (rOp0 k)),.lit (.int .i64 (rOp1 k))],.agg [.lit (.int .u8 (rH0 k)),.lit (.int .u8 (rH1 k)),.lit (.int .u8 (rH2 k))],.lit (.int .u8 (rWant k))])
theorem zM1:Rows.laid_winnow_cfg_steps (H:=Unit)=stepData:=rfl
theorem zM2:Rows.laid_winnow_parse_rules (H:=Unit)=ruleData:=rfl
theorem zR8 {P:Program} {name:String} {ds:List (DataW Unit)} {rest:List (String×DataW Unit)} {g:Nat} {t e:TypeId} {n c:Nat}
  (hg:P.globalNamed name=some g) (hty:(P.globals[g]?).map (·.type)=some t) (ht:P.underlying t=some (.array n e)) (hce:P.cellsOf e=c)
  (h:laidMet P ((name,.agg ds)::rest) W):∃ (cs:Array Value) (enc:TypeId×Value->Unit) (base:Nat) (sp:Nat->Bool) (held:Bool) (m:Nat),W.var? P name=some cs/\ds.length=n /\
   ∀ i d,ds[i]?=some d->∃ p,DataW.trod enc P W base sp held m e ((cs.toList.drop (i*c)).take c)=some (d,p):=by
 obtain ⟨ps,⟨g',t',cs,fuel,p,q,hg',ht',hvar,hd,_,_⟩,_⟩:=h;obtain rfl:=Option.some.inj (hg.symm.trans hg');obtain rfl:=Option.some.inj (hty.symm.trans ht');obtain ⟨xs,m,_,hx,_,hlen,hel⟩:=DataW.trod_array ht hd
 have hds:ds=xs.map (·.1):=by have:=congrArg Prod.fst hx;simpa using this
 refine ⟨cs,fun _=>(),0,fun _=>true,false,m,hvar,by rw [hds];simpa using hlen,?_⟩;intro i d hi
 have hi':i<xs.length:=by have:=(List.getElem?_eq_some_iff.1 hi).1;rw [hds] at this;simpa using this
 have h9:=hel i oM;rw [hce] at h9;refine ⟨xs[i].2,?_⟩;rw [h9,List.getElem?_eq_getElem hi'];rw [hds,List.getElem?_map,List.getElem?_eq_getElem hi'] at hi;have:xs[i].1=d:=by simpa using hi
 rw [<-this]
theorem zf2 {i c j:Nat} {l:List Value} {v:Value} (h:(cs.drop (i*c)).take c=l) (hj:l[j]?=some v):cs[i*c+j]?=some v:=by
 rw [<-h,List.getElem?_take] at hj
 split at hj
 ·rw [List.getElem?_drop] at hj;exact hj
 cases hj
theorem yh8 {b o:Nat} {v:Value} (h:W.cell? (aD b o)=some v):b<W.heap.size:=by
 rcases Nat.lt_or_ge b W.heap.size with hh | hh
 ·exact hh
 simp [World.cell?,Array.getElem?_eq_none hh] at h
theorem zB5 {rest:List (String×DataW Unit)} (h:laidMet Tryz.prog (("winnow/cfg.steps",Rows.laid_winnow_cfg_steps)::rest) W):StepsIs W:=by
 rw [zM1] at h;have hg:Tryz.prog.globalNamed "winnow/cfg.steps" = some 3:=by kernel_rfl
 obtain ⟨cs,enc,base,sp,held,m,hvar,_,hel⟩:=zR8 (g:=3) (t:=187) hg kR Tryz.underlying187 cellsB.1 h
 have key:∀ k,k<16->(cs.toList.drop (k*2)).take 2=[.bool (decide (2<=k)&&decide (k<=8)),nI (opT.getD k 0)]:=by intro k hk;obtain ⟨p,hp⟩:=hel k _ (by rw [List.getElem?_map,List.getElem?_range hk];rfl);exact yB4 hp
 have cell:∀ (j:Nat) (v:Value),cs.toList[j]?=some v->W.cell? ⟨3,j,none⟩=some v:=by intro j v hv;rw [World.var?_cell hg hvar j,<-Array.getElem?_toList];exact hv
 exact ⟨yh8 (cell _ _ (zf2 (j:=0) (key 0 dC) rfl)),fun k hk=>cell _ _ (zf2 (j:=0) (key k hk) rfl),fun k hk=>cell _ _ (zf2 (j:=1) (key k hk) rfl)⟩
theorem zB6 {rest:List (String×DataW Unit)} (h:laidMet Tryz.prog (("winnow/parse.rules",Rows.laid_winnow_parse_rules)::rest) W):RulesIs W:=by
 rw [zM2] at h;have hg:Tryz.prog.globalNamed "winnow/parse.rules" = some 5:=by kernel_rfl
 obtain ⟨cs,enc,base,sp,held,m,hvar,_,hel⟩:=zR8 (g:=5) (t:=257) hg kR Tryz.underlying257 cellsA.2.2.2.2.2.2.1 h
 have key:∀ k,k<16->(cs.toList.drop (k*9)).take 9=[.int .u8 (rSort k),.bool (rNamed k),nI (rMost k),nI (rOp0 k),nI (rOp1 k),.int .u8 (rH0 k),.int .u8 (rH1 k),.int .u8 (rH2 k),.int .u8 (rWant k)]:=by intro k hk;obtain ⟨p,hp⟩:=hel k _ (by rw [List.getElem?_map,List.getElem?_range hk];rfl);exact yB5 hp
 have cell:∀ (j:Nat) (v:Value),cs.toList[j]?=some v->W.cell? ⟨5,j,none⟩=some v:=by intro j v hv;rw [World.var?_cell hg hvar j,<-Array.getElem?_toList];exact hv
 exact ⟨yh8 (cell _ _ (zf2 (j:=0) (key 0 dC) rfl)),fun k hk=>cell _ _ (zf2 (j:=0) (key k hk) rfl),fun k hk=>cell _ _ (zf2 (j:=1) (key k hk) rfl),fun k hk=>cell _ _ (zf2 (j:=2) (key k hk) rfl),fun k hk=>cell _ _ (zf2 (j:=3) (key k hk) rfl),
  fun k hk=>cell _ _ (zf2 (j:=4) (key k hk) rfl),fun k hk=>cell _ _ (zf2 (j:=5) (key k hk) rfl),fun k hk=>cell _ _ (zf2 (j:=6) (key k hk) rfl),fun k hk=>cell _ _ (zf2 (j:=7) (key k hk) rfl),fun k hk=>cell _ _ (zf2 (j:=8) (key k hk) rfl)⟩
theorem ys5:((List.range Tryz.prog.types.size).filter fun t=>Tryz.prog.rowNamed t [101,114,114,111,114])=[110]:=by kernel_rfl
theorem yB6 {x:String×DataW Unit} (hx:x=("errors.errorType",Rows.laid_errors_errorType)) (h:handlesMet Tryz.prog [x] W):W.cell? ⟨0,0,none⟩=some (.iface 192 (.agg #[.pointer (some ⟨8,110,none⟩)])):=by
 subst hx;obtain ⟨name,u,ty,e1,e2,e3,e4,e5⟩:=h _ (List.mem_singleton.2 rfl);have en:name=[101,114,114,111,114]:=(Option.some.inj e1).symm;subst en;obtain rfl:=Option.some.inj ((show (Tryz.prog.cutTypes.find? (·.1 == "internal/reflectlite.rtype")).map (·.2)=some 192 by kernel_rfl).symm.trans e2);have hm:ty∈(List.range Tryz.prog.types.size).filter fun t=>Tryz.prog.rowNamed t [101,114,114,111,114]:=List.mem_filter.2 ⟨List.mem_range.2 e3,e4⟩;rw [ys5] at hm;obtain rfl:=List.mem_singleton.1 hm;have hh:typeHandle Tryz.prog 110=.pointer (some ⟨8,110,none⟩):=by kernel_rfl
 rw [hh] at e5;simpa using World.var?_cell (show Tryz.prog.globalNamed "errors.errorType" = some 0 by kernel_rfl) e5 0
theorem zH5 : "*" ++ "errors.errorString" = "*errors.errorString" := by decide
theorem ys6 (u:TypeId) (h:Tryz.prog.typeName? 3 u=some "*errors.errorString"):u=275 :=
 typeName_ptr_named (nm := "errors.errorString") (by rw [zH5];kernel_rfl) (by kernel_rfl) (by decide) u (by rw [zH5];exact h)
theorem zM3 (h:laidMetH Tryz.prog Rows.partFollowsRow.laid W):PEnv W:=by have h':laidMet Tryz.prog [("math/bits.deBruijn32tab",Rows.laid_math_bits_deBruijn32tab),("math/bits.deBruijn64tab",Rows.laid_math_bits_deBruijn64tab),("internal/strconv.uint64pow10",Rows.laid_internal_strconv_uint64pow10),("winnow/api.ErrReject",Rows.laid_winnow_api_ErrReject),("winnow/api.ErrConfig",Rows.laid_winnow_api_ErrConfig),("winnow/parse.rules",Rows.laid_winnow_parse_rules),("winnow/cfg.steps",Rows.laid_winnow_cfg_steps)] W/\handlesMet Tryz.prog [("errors.errorType",Rows.laid_errors_errorType)] W:=h;have h2:=laidMet.tail (laidMet.tail h'.1);have h4:=laidMet.tail (laidMet.tail h2);have h5:=laidMet.tail h4;obtain ⟨a,s,hv,_⟩:=laid_sentinel (g:=1) (ti:=110) (tp:=275) (te:=293) (ts:=9) h4 kR kR Tryz.underlying110 (fun u hu=>ys6 u hu) Tryz.underlying275 Tryz.underlying293 rfl rfl Tryz.underlying9 kR kR;exact ⟨zB6 h5,zB5 (laidMet.tail h5),Lib.tabBelow_of_tabIs (Lib.tabIs_of_head (g:=4) (t:=247) kR kR Tryz.underlying247 Tryz.underlying233 kR kR h2),⟨_,_,by simpa using World.var?_cell (show Tryz.prog.globalNamed "winnow/api.ErrConfig" = some 1 by kernel_rfl) hv 0⟩,yB6 rfl h'.2⟩
end Go.Proofs.YtihdgmiicfbbkaaGreatDoor
