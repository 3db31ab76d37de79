import Derived.Test.YtpongdpnbclchaaGreatDoorCards
import Derived.Test.YtpongdpnbclchaaGreatDoorTie
import Derived.LaidMore
import Derived.SevenTiedAt
import Derived.Stop.LaidErr
import Derived.Lib.SmallJoins
import Derived.Deep.DeepHandedRow
import Derived.Test.YtpongdpnbclchaaGreatDoorKJa
set_option linter.all false
set_option maxRecDepth 100000
namespace Go.Proofs.YtpongdpnbclchaaGreatDoor
variable{W:World}{cs:List Value}{fuel:Nat}{v:Value}
section
open Go.ChangeShapes Go.WideShapes Go.ChangeAt Go.RowKit
theorem own:ownKnob Tryz.prog.godebug=none:=by kernel_rfl
section
variable {H:Type} {enc:TypeId×Value->H} {w:World} {base:Nat} {sp:Nat->Bool} {held:Bool}
theorem wk3:Tryz.prog.cellsOf 234=1/\Tryz.prog.cellsOf 4=1/\Tryz.prog.cellsOf 2=1/\Tryz.prog.cellsOf 235=2/\Tryz.prog.cellsOf 236=3/\Tryz.prog.cellsOf 5=1/\Tryz.prog.cellsOf 238=9/\Tryz.prog.cellsOf 76=1:=by refine⟨?_,?_,?_,?_,?_,?_,?_,?_⟩<;>kernel_rfl
theorem wk4:Tryz.prog.cellsOf 176=2/\Tryz.prog.cellsOf 57=1:=by refine⟨?_,?_⟩<;>kernel_rfl
theorem yB4{s:Bool}{l:Int}{p:List MemPlace}(h:DataW.trod enc Tryz.prog w base sp held fuel 176 cs=some (.agg [.lit (.bool s),.lit (.int .i64 l)],p)) :
  cs=[.bool s,nI l]:=by
 obtain⟨xs,m,_,hx,hl,hlen,hf⟩:=DataW.trod_struct Tryz.underlying176 h;rw[wk4.1]at hl
 match xs,hlen,cs,hl with
 | [y0,y1],_,[c0,c1],_ =>
  have h0:DataW.trod enc Tryz.prog w base sp held m 4 (([c0,c1].drop 0).take (Tryz.prog.cellsOf 4))=some y0:=hf 0 _ rfl;rw[wk3.2.1,show([c0,c1].drop 0).take 1=[c0] from rfl]at h0;have h1:DataW.trod enc Tryz.prog w base sp held m 57 (([c0,c1].drop 1).take (Tryz.prog.cellsOf 57))=some y1:=hf 1 _ rfl;rw[wk4.2,show([c0,c1].drop 1).take 1=[c1] from rfl]at h1;obtain⟨s',e0,r0⟩:=DataW.trod_bool Tryz.underlying4 h0;obtain⟨l',e1,r1,_⟩:=DataW.trod_int Tryz.underlying57 h1;simp only[List.cons.injEq,and_true]at e0 e1;subst e0 e1 r0 r1;simp only[List.map_cons,List.map_nil,Prod.mk.injEq,DataW.agg.injEq,List.cons.injEq,DataW.lit.injEq,Lit.bool.injEq,Lit.int.injEq,and_true,true_and]at hx;obtain⟨⟨rfl,rfl⟩,_⟩:=hx;rfl
theorem yB5{a0 a2 a3 a4 a5 a6 a7 a8:Int}{a1:Bool}{p:List MemPlace}
  (h:DataW.trod enc Tryz.prog w base sp held fuel 238 cs=some (.agg [.lit (.int .u8 a0),.lit (.bool a1),.lit (.int .i64 a2),.agg [.lit (.int .i64 a3),.lit (.int .i64 a4)],.agg [.lit (.int .u8 a5),.lit (.int .u8 a6),.lit (.int .u8 a7)],.lit (.int .u8 a8)],p)) :
  cs=[.int .u8 a0,.bool a1,nI a2,nI a3,nI a4,.int .u8 a5,.int .u8 a6,.int .u8 a7,.int .u8 a8]:=by
 obtain⟨xs,m,_,hx,hl,hlen,hf⟩:=DataW.trod_struct Tryz.underlying238 h;obtain⟨c71,c4,c2,c72,c73,c5,c75,c29⟩:=wk3;rw[c75]at hl
 match xs,hlen,cs,hl with
 | [y0,y1,y2,y3,y4,y5],_,[k0,k1,k2,k3,k4,k5,k6,k7,k8],_ =>
  have h0:DataW.trod enc Tryz.prog w base sp held m 234 (([k0,k1,k2,k3,k4,k5,k6,k7,k8].drop 0).take (Tryz.prog.cellsOf 234))=some y0:=hf 0 _ rfl;rw[c71,show([k0,k1,k2,k3,k4,k5,k6,k7,k8].drop 0).take 1=[k0] from rfl]at h0;have h1:DataW.trod enc Tryz.prog w base sp held m 4 (([k0,k1,k2,k3,k4,k5,k6,k7,k8].drop 1).take (Tryz.prog.cellsOf 4))=some y1:=hf 1 _ rfl;rw[c4,show([k0,k1,k2,k3,k4,k5,k6,k7,k8].drop 1).take 1=[k1] from rfl]at h1;have h2:DataW.trod enc Tryz.prog w base sp held m 2 (([k0,k1,k2,k3,k4,k5,k6,k7,k8].drop 2).take (Tryz.prog.cellsOf 2))=some y2:=hf 2 _ rfl;rw[c2,show([k0,k1,k2,k3,k4,k5,k6,k7,k8].drop 2).take 1=[k2] from rfl]at h2;have h3:DataW.trod enc Tryz.prog w base sp held m 235 (([k0,k1,k2,k3,k4,k5,k6,k7,k8].drop 3).take (Tryz.prog.cellsOf 235))=some y3:=hf 3 _ rfl;rw[c72,show([k0,k1,k2,k3,k4,k5,k6,k7,k8].drop 3).take 2=[k3,k4] from rfl]at h3;have h4:DataW.trod enc Tryz.prog w base sp held m 236 (([k0,k1,k2,k3,k4,k5,k6,k7,k8].drop 5).take (Tryz.prog.cellsOf 236))=some y4:=hf 4 _ rfl;rw[c73,show([k0,k1,k2,k3,k4,k5,k6,k7,k8].drop 5).take 3=[k5,k6,k7] from rfl]at h4;have h5:DataW.trod enc Tryz.prog w base sp held m 5 (([k0,k1,k2,k3,k4,k5,k6,k7,k8].drop 8).take (Tryz.prog.cellsOf 5))=some y5:=hf 5 _ rfl;rw[c5,show([k0,k1,k2,k3,k4,k5,k6,k7,k8].drop 8).take 1=[k8] from rfl]at h5;obtain⟨z0,e0,r0,_⟩:=DataW.trod_int Tryz.underlying234 h0;obtain⟨z1,e1,r1⟩:=DataW.trod_bool Tryz.underlying4 h1;obtain⟨z2,e2,r2,_⟩:=DataW.trod_int Tryz.underlying2 h2;obtain⟨z8,e8,r8,_⟩:=DataW.trod_int Tryz.underlying5 h5;simp only[List.map_cons,List.map_nil,Prod.mk.injEq,DataW.agg.injEq,List.cons.injEq,and_true]at hx;obtain⟨⟨hx0,hx1,hx2,hx3,hx4,hx5⟩,_⟩:=hx;have g3:[k3,k4]=[a3,a4].map λz=>Value.int .i64 z:=Lib.cells_of_tab (p:=y3.2) Tryz.underlying235 Tryz.underlying76 c29 c72 (by rw[h3,show Lib.tabData .i64 [a3,a4]=y3.1 from hx3]);have g4:[k5,k6,k7]=[a5,a6,a7].map λz=>Value.int .u8 z:=Lib.cells_of_tab (p:=y4.2) Tryz.underlying236 Tryz.underlying234 c71 c73 (by rw[h4,show Lib.tabData .u8 [a5,a6,a7]=y4.1 from hx4]);simp only[List.map_cons,List.map_nil,List.cons.injEq,and_true]at g3 g4 e0 e1 e2 e8;obtain⟨rfl,rfl⟩:=g3;obtain⟨rfl,rfl,rfl⟩:=g4;subst e0 e1 e2 e8 r0 r1 r2 r8;simp only[DataW.lit.injEq,Lit.int.injEq,Lit.bool.injEq,true_and]at hx0 hx1 hx2 hx5;subst hx0 hx1 hx2 hx5;rfl
end
def wm2{H:Type}:DataW H:=.agg ((List.range 16).map λk=>.agg [.lit (.bool (decide (2<=k)&&decide (k<=8))),.lit (.int .i64 (opT.getD k 0))])
def wm3{H:Type}:DataW H:=.agg ((List.range 16).map λk=>.agg [.lit (.int .u8 (AO k)),.lit (.bool (wc1 k)),.lit (.int .i64 (wh8 k)),.agg [.lit (.int .i64 (wj0 k)),.lit (.int .i64 (wj1 k))],.agg [.lit (.int .u8 (rH0 k)),.lit (.int .u8 (rH1 k)),.lit (.int .u8 (rH2 k))],.lit (.int .u8 (DT k))])
theorem zM1:Rows.laid_winnow_cfg_steps (H:=Unit)=wm2:=rfl
theorem zM2:Rows.laid_winnow_parse_rules (H:=Unit)=wm3:=rfl
theorem zR8{P:Program}{name:String}{ds:List (DataW Unit)}{rest:List (String×DataW Unit)}{g:Nat}{t e:TypeId}{n c:Nat}
  (hg:P.globalNamed name=some g) (hty:(P.globals[g]?).map (·.type)=some t) (ht:P.underlying t=some (.array n e)) (hce:P.cellsOf e=c)
  (h:laidMet P ((name,.agg ds)::rest) W):∃(cs:Array Value) (enc:TypeId×Value->Unit) (base:Nat) (sp:Nat->Bool) (held:Bool) (m:Nat),W.var? P name=some cs/\ds.length=n /\
   ∀i d,ds[i]?=some d->∃p,DataW.trod enc P W base sp held m e ((cs.toList.drop (i*c)).take c)=some (d,p):=by
 obtain⟨ps,⟨g',t',cs,fuel,p,q,hg',ht',hvar,hd,_,_⟩,_⟩:=h;obtain rfl:=Option.some.inj (hg.symm.trans hg');obtain rfl:=Option.some.inj (hty.symm.trans ht');obtain⟨xs,m,_,hx,_,hlen,hel⟩:=DataW.trod_array ht hd
 have hds:ds=xs.map (·.1):=by have:=congrArg Prod.fst hx;simpa using this
 refine⟨cs,λ_=>(),0,λ_=>true,false,m,hvar,by rw[hds];simpa using hlen,?_⟩;intro i d hi
 have hi':i<xs.length:=by have:=(List.getElem?_eq_some_iff.1 hi).1;rw[hds]at this;simpa using this
 have h9:=hel i oM;rw[hce]at h9;refine⟨xs[i].2,?_⟩;rw[h9,List.getElem?_eq_getElem hi'];rw[hds,List.getElem?_map,List.getElem?_eq_getElem hi']at hi;have:xs[i].1=d:=by simpa using hi
 rw[<-this]
theorem zf2{i c j:Nat}{l:List Value}(h:(cs.drop (i*c)).take c=l)(hj:l[j]?=some v):cs[i*c+j]?=some v:=by
 rw[<-h,List.getElem?_take]at hj
 split at hj
 ·rw[List.getElem?_drop]at hj;exact hj
 cases hj
theorem yh8{b o:Nat}(h:W.cell? (aD b o)=some v):b<W.heap.size:=by
 rcases Nat.lt_or_ge b W.heap.size with hh | hh
 ·exact hh
 simp[World.cell?,Array.getElem?_eq_none hh]at h
theorem zB5{rest:List (String×DataW Unit)}(h:laidMet Tryz.prog (("winnow/cfg.steps",Rows.laid_winnow_cfg_steps)::rest) W):EE W:=by
 rw [zM1] at h;have hg:Tryz.prog.globalNamed "winnow/cfg.steps" = some 3:=by kernel_rfl
 obtain⟨cs,enc,base,sp,held,m,hvar,_,hel⟩:=zR8 (g:=3) (t:=177) hg kR Tryz.underlying177 wk4.1 h
 have key:∀k,k<16->(cs.toList.drop (k*2)).take 2=[.bool (decide (2<=k)&&decide (k<=8)),nI (opT.getD k 0)]:=by intro k hk;obtain⟨p,hp⟩:=hel k _ (by rw[List.getElem?_map,List.getElem?_range hk];rfl);exact yB4 hp
 have cell:∀(j:Nat) (v:Value),cs.toList[j]?=some v->W.cell? ⟨3,j,none⟩=some v:=by intro j v hv;rw[World.var?_cell hg hvar j,<-Array.getElem?_toList];exact hv
 exact⟨yh8 (cell _ _ (zf2 (j:=0) (key 0 dC) rfl)),λk hk=>cell _ _ (zf2 (j:=0) (key k hk) rfl),λk hk=>cell _ _ (zf2 (j:=1) (key k hk) rfl)⟩
theorem zB6{rest:List (String×DataW Unit)}(h:laidMet Tryz.prog (("winnow/parse.rules",Rows.laid_winnow_parse_rules)::rest) W):BF W:=by
 rw [zM2] at h;have hg:Tryz.prog.globalNamed "winnow/parse.rules" = some 4:=by kernel_rfl
 obtain⟨cs,enc,base,sp,held,m,hvar,_,hel⟩:=zR8 (g:=4) (t:=239) hg kR Tryz.underlying239 wk3.2.2.2.2.2.2.1 h
 have key:∀k,k<16->(cs.toList.drop (k*9)).take 9=[.int .u8 (AO k),.bool (wc1 k),nI (wh8 k),nI (wj0 k),nI (wj1 k),.int .u8 (rH0 k),.int .u8 (rH1 k),.int .u8 (rH2 k),.int .u8 (DT k)]:=by intro k hk;obtain⟨p,hp⟩:=hel k _ (by rw[List.getElem?_map,List.getElem?_range hk];rfl);exact yB5 hp
 have cell:∀(j:Nat) (v:Value),cs.toList[j]?=some v->W.cell? ⟨4,j,none⟩=some v:=by intro j v hv;rw[World.var?_cell hg hvar j,<-Array.getElem?_toList];exact hv
 exact⟨yh8 (cell _ _ (zf2 (j:=0) (key 0 dC) rfl)),λk hk=>cell _ _ (zf2 (j:=0) (key k hk) rfl),λk hk=>cell _ _ (zf2 (j:=1) (key k hk) rfl),λk hk=>cell _ _ (zf2 (j:=2) (key k hk) rfl),λk hk=>cell _ _ (zf2 (j:=3) (key k hk) rfl),
  λk hk=>cell _ _ (zf2 (j:=4) (key k hk) rfl),λk hk=>cell _ _ (zf2 (j:=5) (key k hk) rfl),λk hk=>cell _ _ (zf2 (j:=6) (key k hk) rfl),λk hk=>cell _ _ (zf2 (j:=7) (key k hk) rfl),λk hk=>cell _ _ (zf2 (j:=8) (key k hk) rfl)⟩
theorem ys5:((List.range Tryz.prog.types.size).filter λt=>Tryz.prog.rowNamed t [101,114,114,111,114])=[87]:=by kernel_rfl
theorem yB6{x:String×DataW Unit}(hx:x=("errors.errorType",Rows.laid_errors_errorType))(h:handlesMet Tryz.prog [x] W):W.cell? ⟨0,0,none⟩=some (.iface 182 (.agg #[.pointer (some ⟨8,87,none⟩)])):=by
 subst hx;obtain ⟨name,u,ty,e1,e2,e3,e4,e5⟩:=h _ (List.mem_singleton.2 rfl);have en:name=[101,114,114,111,114]:=(Option.some.inj e1).symm;subst en;obtain rfl:=Option.some.inj ((show (Tryz.prog.cutTypes.find? (·.1 == "internal/reflectlite.rtype")).map (·.2)=some 182 by kernel_rfl).symm.trans e2);have hm:ty∈(List.range Tryz.prog.types.size).filter fun t=>Tryz.prog.rowNamed t [101,114,114,111,114]:=List.mem_filter.2 ⟨List.mem_range.2 e3,e4⟩;rw [ys5] at hm;obtain rfl:=List.mem_singleton.1 hm;have hh:typeHandle Tryz.prog 87=.pointer (some ⟨8,87,none⟩):=by kernel_rfl
 rw [hh] at e5;simpa using World.var?_cell (show Tryz.prog.globalNamed "errors.errorType" = some 0 by kernel_rfl) e5 0
theorem zH5 : "*" ++ "errors.errorString" = "*errors.errorString" := by decide
theorem ys6(u:TypeId)(h:Tryz.prog.typeName? 3 u=some "*errors.errorString"):u=272 :=
 typeName_ptr_named (nm := "errors.errorString") (by rw [zH5];kernel_rfl) (by kernel_rfl) (by decide) u (by rw [zH5];exact h)
theorem zM3(h:laidMetH Tryz.prog Rows.partStepsRow.laid W):wg9 W:=by have h':laidMet Tryz.prog [("math/bits.deBruijn32tab",Rows.laid_math_bits_deBruijn32tab),("math/bits.deBruijn64tab",Rows.laid_math_bits_deBruijn64tab),("internal/strconv.uint64pow10",Rows.laid_internal_strconv_uint64pow10),("winnow/api.ErrReject",Rows.laid_winnow_api_ErrReject),("winnow/api.ErrConfig",Rows.laid_winnow_api_ErrConfig),("winnow/parse.rules",Rows.laid_winnow_parse_rules),("winnow/cfg.steps",Rows.laid_winnow_cfg_steps)] W/\handlesMet Tryz.prog [("errors.errorType",Rows.laid_errors_errorType)] W:=h;have h2:=laidMet.tail (laidMet.tail h'.1);have h4:=laidMet.tail (laidMet.tail h2);have h5:=laidMet.tail h4;obtain ⟨a,s,hv,_⟩:=laid_sentinel (g:=1) (ti:=87) (tp:=272) (te:=290) (ts:=9) h4 kR kR Tryz.underlying87 (fun u hu=>ys6 u hu) Tryz.underlying272 Tryz.underlying290 rfl rfl Tryz.underlying9 kR kR;exact ⟨zB6 h5,zB5 (laidMet.tail h5),Lib.tabBelow_of_tabIs (Lib.tabIs_of_head (g:=5) (t:=264) kR kR Tryz.underlying264 Tryz.underlying255 kR kR h2),⟨_,_,by simpa using World.var?_cell (show Tryz.prog.globalNamed "winnow/api.ErrConfig" = some 1 by kernel_rfl) hv 0⟩,yB6 rfl h'.2⟩
end
section
open Go.RowKit Go.Deep Go.WideShapes Go.ChangeShapes
theorem yB7{P:Program}{H:Type}{enc:TypeId×Value->H}{w:World}{t e:TypeId}(ht:P.underlying t=some (.slice e))(hi:P.underlying e=some (.int .i64))(hc:P.cellsOf e=1){c:Value}{x:DataW H×List MemPlace}(h:DataW.trod enc P w 0 (λ_=>true) true fuel t [c]=some x) :
  ∃(l:List Int) (ao:Option Addr) (cap:Nat),c=.slice ao l.length cap/\SL w 1 c l.length (ilL l)/\∀y∈l,(Lit.int .i64 y).wf=true:=by
 rcases open_slice ht h with ⟨h0,_⟩ | ⟨a,len,cap,m,n,D,Pl,hcs,_,hl,hm,hme,hx,hel⟩
 ·have e0:c=sZ:=by simpa using h0
  exact⟨[],none,0,e0,⟨rfl,λu hu=>(by cases hu),none,0,e0,.inl rfl⟩,λy hy=>(by cases hy)⟩
 simp only[if_true]at hme;subst hme;rw[hc]at hel
 have hex:∀i,∃y:Int,i<len->w.cells? 0 (a.add (i*1)) 1=some [.int .i64 y]/\(Lit.int .i64 y).wf=true:=by
  intro i;by_cases hi':i<len
  ·obtain⟨cs',h1,h2⟩:=hel i oM
   obtain⟨y,e1,_,e3⟩:=DataW.trod_int hi h2;subst e1;exact⟨y,λ_=>⟨h1,e3⟩⟩
  exact⟨0,λhh=>absurd hh hi'⟩
 obtain⟨f,hf⟩:=Classical.axiomOfChoice hex;have hc':c=.slice (some a) len m:=by simpa using hcs
 have hlen:((List.range len).map f).length=len:=by simp
 have hwf:∀y∈(List.range len).map f,(Lit.int .i64 y).wf=true:=λy hy=>by obtain⟨i,hi',rfl⟩:=List.mem_map.1 hy;exact(hf i (List.mem_range.1 hi')).2
 refine⟨(List.range len).map f,some a,m,by rw[hlen];exact hc',⟨by simp[ilL],zJ6 _,some a,m,by rw[hlen];exact hc',?_⟩,hwf⟩;rcases Nat.eq_zero_or_pos len with e0 | hpos
 ·exact .inl (by rw[hlen];exact e0)
 right
 have hcell:∀i,i<len->w.cell? (a.add i)=some (nI (f i)):=λi hi'=>by have h9:=(World.cells?_some (hf i hi').1).2.2 0 dC;rw[Nat.mul_one]at h9;simpa[Addr.add] using h9
 obtain⟨b,o,y⟩:=a;have h00:=hcell 0 hpos;have hy:y=none:=by simpa[Addr.add] using World.cell?_spot h00
 subst hy;refine⟨b,o,rfl,?_,λj u hj=>?_⟩
 ·rcases Nat.lt_or_ge b w.heap.size with hh | hh
  ·exact hh
  rw[Go.WideShapes.add_plain]at h00;simp[World.cell?,Array.getElem?_eq_none hh]at h00
 have hj':j<len:=by have:=(List.getElem?_eq_some_iff.1 hj).1;simpa[ilL] using this
 have h9:=hcell j hj';rw[Go.WideShapes.add_plain]at h9;rw[h9];unfold ilL at hj;simpa[hj'] using hj
theorem wp8:Tryz.prog.cellsOf 3=1/\Tryz.prog.cellsOf 2=1/\Tryz.prog.cellsOf 22=1/\Tryz.prog.cellsOf 24=9:=by refine⟨?_,?_,?_,?_⟩<;>kernel_rfl
def cfN(a0 a1 a2 a3 a4 a5 a7 a8:Int):Nat->Int
 | 0=>a0
 | 1=>a1
 | 2=>a2
 | 3=>a3
 | 4=>a4
 | 5=>a5
 | 7=>a7
 | 8=>a8
 | _=>0
theorem yh9{H:Type}{enc:TypeId×Value->H}{w:World}{r:Reach}{b0:Nat}{d:DataW H}{ps:List MemPlace}(hval:Value.okWide Tryz.prog w r b0 24 v)(hd:DataW.Trod enc Tryz.prog w 0 (λ_=>true) true 24 v d ps) :
  ∃(c:Nat->Int) (ts:List Int) (tz:Option Addr) (tc:Nat),v=.agg #[nI (c 0),nI (c 1),nI (c 2),nI (c 3),nI (c 4),nI (c 5),.slice tz ts.length tc,nI (c 7),nI (c 8)]/\SL w 1 (.slice tz ts.length tc) ts.length (ilL ts):=by
 obtain⟨cs,rfl,hcs⟩:=okWide_struct Tryz.underlying24 hval;obtain⟨fuel,hf⟩:=hd;obtain⟨xs,m,_,hxx,hl,hlen,hg⟩:=DataW.trod_struct Tryz.underlying24 hf;obtain⟨u3,u6,us,uc⟩:=wp8;have hl2:cs.toList.length=9:=by rw[uc]at hcs;simpa using hcs
 have hcc:(Value.agg cs).cells.toList=cs.toList:=by simp[Value.cells]
 obtain⟨L,hL⟩:=qq (cs.toList);have hca:cs=L.toArray:=by rw[hL]
 rw[<-hL]at hl2 hcc
 match xs,hlen,L,hl2 with
 | [y0,y1,y2,y3,y4,y5,y6,y7,y8],_,[c0,c1,c2,c3,c4,c5,c6,c7,c8],_ =>
  have key:∀(k:Nat) (t:TypeId) (c:Value) (y:DataW H×List MemPlace),DataW.trod enc Tryz.prog w 0 (λ_=>true) true m t (((Value.agg cs).cells.toList.drop k).take (Tryz.prog.cellsOf t))=some y->Tryz.prog.cellsOf t=1->([c0,c1,c2,c3,c4,c5,c6,c7,c8].drop k).take 1=[c]->DataW.trod enc Tryz.prog w 0 (λ_=>true) true m t [c]=some y:=λk t c y h h1 h2=>by rw[hcc,h1,h2]at h;exact h
  obtain⟨a0,e0,_,_⟩:=DataW.trod_int Tryz.underlying3 (key 0 3 c0 y0 (hg 0 _ rfl) u3 rfl);obtain⟨a1,e1,_,_⟩:=DataW.trod_int Tryz.underlying3 (key 1 3 c1 y1 (hg 1 _ rfl) u3 rfl);obtain⟨a2,e2,_,_⟩:=DataW.trod_int Tryz.underlying3 (key 2 3 c2 y2 (hg 2 _ rfl) u3 rfl);obtain⟨a3,e3,_,_⟩:=DataW.trod_int Tryz.underlying3 (key 3 3 c3 y3 (hg 3 _ rfl) u3 rfl);obtain⟨a4,e4,_,_⟩:=DataW.trod_int Tryz.underlying3 (key 4 3 c4 y4 (hg 4 _ rfl) u3 rfl);obtain⟨a5,e5,_,_⟩:=DataW.trod_int Tryz.underlying3 (key 5 3 c5 y5 (hg 5 _ rfl) u3 rfl);obtain⟨ts,tz,tc,e6,h6,_⟩:=yB7 Tryz.underlying22 Tryz.underlying2 u6 (key 6 22 c6 y6 (hg 6 _ rfl) us rfl);obtain⟨a7,e7,_,_⟩:=DataW.trod_int Tryz.underlying3 (key 7 3 c7 y7 (hg 7 _ rfl) u3 rfl);obtain⟨a8,e8,_,_⟩:=DataW.trod_int Tryz.underlying3 (key 8 3 c8 y8 (hg 8 _ rfl) u3 rfl);simp only[List.cons.injEq,and_true]at e0 e1 e2 e3 e4 e5 e7 e8;subst e0 e1 e2 e3 e4 e5 e7 e8;subst e6;exact⟨cfN a0 a1 a2 a3 a4 a5 a7 a8,ts,tz,tc,by rw[hca];rfl,h6⟩
end
end Go.Proofs.YtpongdpnbclchaaGreatDoor
