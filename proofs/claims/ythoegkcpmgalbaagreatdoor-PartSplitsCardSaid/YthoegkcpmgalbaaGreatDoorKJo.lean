import Derived.Test.YthoegkcpmgalbaaGreatDoorCards
import Derived.Test.YthoegkcpmgalbaaGreatDoorTie
import Derived.LaidMore
import Derived.SevenTiedAt
import Derived.Stop.LaidErr
import Derived.Lib.SmallJoins
import Derived.Deep.DeepHandedRow
import Derived.Test.YthoegkcpmgalbaaGreatDoorKJd
set_option linter.all false
set_option maxRecDepth 100000
namespace Go.Proofs.YthoegkcpmgalbaaGreatDoor
open Go.ChangeShapes Go.WideShapes Go.ChangeAt Go.RowKit Go.Deep
variable{W:World}{cs:List Value}{fuel:Nat}
def own:ownKnob Tryz.prog.godebug=none:=by kernel_rfl
variable {H:Type} {enc:TypeId×Value->H} {w:World} {base:Nat} {sp:Nat->Bool} {held:Bool}
def wk8:Tryz.prog.cellsOf 261=1/\Tryz.prog.cellsOf 4=1/\Tryz.prog.cellsOf 2=1/\Tryz.prog.cellsOf 262=2/\Tryz.prog.cellsOf 263=3/\Tryz.prog.cellsOf 5=1/\Tryz.prog.cellsOf 265=9/\Tryz.prog.cellsOf 51=1:=by refine⟨?_,?_,?_,?_,?_,?_,?_,?_⟩<;>kernel_rfl
def wk9:Tryz.prog.cellsOf 191=2/\Tryz.prog.cellsOf 96=1:=by refine⟨?_,?_⟩<;>kernel_rfl
def yB4{s:Bool}{l:Int}{p:List MemPlace}(h:DataW.trod enc Tryz.prog w base sp held fuel 191 cs=some (.agg [.lit (.bool s),.lit (.int .i64 l)],p)) :
  cs=[.bool s,nI l]:=by
 obtain⟨R,m,_,I,L,d,G⟩:=DataW.trod_struct Tryz.underlying191 h;rw[wk9.1]at L
 match R,d,cs,L with
 | [y0,y1],_,[c0,c1],_ =>
  have o:DataW.trod enc Tryz.prog w base sp held m 4 (([c0,c1].drop 0).take (Tryz.prog.cellsOf 4))=some y0:=G 0 _ rfl;rw[wk8.2.1,show([c0,c1].drop 0).take 1=[c0] from rfl]at o;have D:DataW.trod enc Tryz.prog w base sp held m 96 (([c0,c1].drop 1).take (Tryz.prog.cellsOf 96))=some y1:=G 1 _ rfl;rw[wk9.2,show([c0,c1].drop 1).take 1=[c1] from rfl]at D;obtain⟨Y,J,X⟩:=DataW.trod_bool Tryz.underlying4 o;obtain⟨Z,K,O,_⟩:=DataW.trod_int Tryz.underlying96 D;simp only[cJ,gK]at J K;subst J K X O;simp only[dK,eK,fV,DataW.agg.injEq,cJ,DataW.lit.injEq,Lit.bool.injEq,Lit.int.injEq,gK,gI]at I;obtain⟨⟨rfl,rfl⟩,_⟩:=I;rfl
def yB5{a0 a2 a3 a4 a5 a6 a7 a8:Int}{a1:Bool}{p:List MemPlace}
  (h:DataW.trod enc Tryz.prog w base sp held fuel 265 cs=some (.agg [.lit (.int .u8 a0),.lit (.bool a1),.lit (.int .i64 a2),.agg [.lit (.int .i64 a3),.lit (.int .i64 a4)],.agg [.lit (.int .u8 a5),.lit (.int .u8 a6),.lit (.int .u8 a7)],.lit (.int .u8 a8)],p)) :
  cs=[.int .u8 a0,.bool a1,nI a2,nI a3,nI a4,.int .u8 a5,.int .u8 a6,.int .u8 a7,.int .u8 a8]:=by
 obtain⟨xs,m,_,hx,hl,o,d⟩:=DataW.trod_struct Tryz.underlying265 h;obtain⟨O,c4,c2,G,K,c5,Y,X⟩:=wk8;rw[Y]at hl
 match xs,o,cs,hl with
 | [y0,y1,y2,y3,y4,y5],_,[k0,k1,k2,k3,k4,k5,k6,k7,k8],_ =>
  have h0:DataW.trod enc Tryz.prog w base sp held m 261 (([k0,k1,k2,k3,k4,k5,k6,k7,k8].drop 0).take (Tryz.prog.cellsOf 261))=some y0:=d 0 _ rfl;rw[O,show([k0,k1,k2,k3,k4,k5,k6,k7,k8].drop 0).take 1=[k0] from rfl]at h0;have h1:DataW.trod enc Tryz.prog w base sp held m 4 (([k0,k1,k2,k3,k4,k5,k6,k7,k8].drop 1).take (Tryz.prog.cellsOf 4))=some y1:=d 1 _ rfl;rw[c4,show([k0,k1,k2,k3,k4,k5,k6,k7,k8].drop 1).take 1=[k1] from rfl]at h1;have h2:DataW.trod enc Tryz.prog w base sp held m 2 (([k0,k1,k2,k3,k4,k5,k6,k7,k8].drop 2).take (Tryz.prog.cellsOf 2))=some y2:=d 2 _ rfl;rw[c2,show([k0,k1,k2,k3,k4,k5,k6,k7,k8].drop 2).take 1=[k2] from rfl]at h2;have h3:DataW.trod enc Tryz.prog w base sp held m 262 (([k0,k1,k2,k3,k4,k5,k6,k7,k8].drop 3).take (Tryz.prog.cellsOf 262))=some y3:=d 3 _ rfl;rw[G,show([k0,k1,k2,k3,k4,k5,k6,k7,k8].drop 3).take 2=[k3,k4] from rfl]at h3;have h4:DataW.trod enc Tryz.prog w base sp held m 263 (([k0,k1,k2,k3,k4,k5,k6,k7,k8].drop 5).take (Tryz.prog.cellsOf 263))=some y4:=d 4 _ rfl;rw[K,show([k0,k1,k2,k3,k4,k5,k6,k7,k8].drop 5).take 3=[k5,k6,k7] from rfl]at h4;have h5:DataW.trod enc Tryz.prog w base sp held m 5 (([k0,k1,k2,k3,k4,k5,k6,k7,k8].drop 8).take (Tryz.prog.cellsOf 5))=some y5:=d 5 _ rfl;rw[c5,show([k0,k1,k2,k3,k4,k5,k6,k7,k8].drop 8).take 1=[k8] from rfl]at h5;obtain⟨z0,e0,r0,_⟩:=DataW.trod_int Tryz.underlying261 h0;obtain⟨z1,e1,r1⟩:=DataW.trod_bool Tryz.underlying4 h1;obtain⟨z2,e2,r2,_⟩:=DataW.trod_int Tryz.underlying2 h2;obtain⟨z8,e8,r8,_⟩:=DataW.trod_int Tryz.underlying5 h5;simp only[dK,eK,fV,DataW.agg.injEq,cJ,gK]at hx;obtain⟨⟨I,L,D,Z,R,J⟩,_⟩:=hx;have g3:[k3,k4]=[a3,a4].map λz=>Value.int .i64 z:=Lib.cells_of_tab (p:=y3.2) Tryz.underlying262 Tryz.underlying51 X G (by rw[h3,show Lib.tabData .i64 [a3,a4]=y3.1 from Z]);have g4:[k5,k6,k7]=[a5,a6,a7].map λz=>Value.int .u8 z:=Lib.cells_of_tab (p:=y4.2) Tryz.underlying263 Tryz.underlying261 O K (by rw[h4,show Lib.tabData .u8 [a5,a6,a7]=y4.1 from R]);simp only[dK,eK,cJ,gK]at g3 g4 e0 e1 e2 e8;obtain⟨rfl,rfl⟩:=g3;obtain⟨rfl,rfl,rfl⟩:=g4;subst e0 e1 e2 e8 r0 r1 r2 r8;simp only[DataW.lit.injEq,Lit.int.injEq,Lit.bool.injEq,gI]at I L D J;subst I L D J;rfl
def wn3{H:Type}:DataW H:=.agg ((List.range 16).map λk=>.agg [.lit (.bool (decide (2<=k)&&decide (k<=8))),.lit (.int .i64 (opT.getD k 0))])
def wn4{H:Type}:DataW H:=.agg ((List.range 16).map λk=>.agg [.lit (.int .u8 (BK k)),.lit (.bool (wc2 k)),.lit (.int .i64 (wh6 k)),.agg [.lit (.int .i64 (wj0 k)),.lit (.int .i64 (wj1 k))],.agg [.lit (.int .u8 (rH0 k)),.lit (.int .u8 (rH1 k)),.lit (.int .u8 (rH2 k))],.lit (.int .u8 (FB k))])
def zM1:Rows.laid_winnow_cfg_steps (H:=Unit)=wn3:=rfl
def zM2:Rows.laid_winnow_parse_rules (H:=Unit)=wn4:=rfl
def zR8{P:Program}{o:String}{O:List (DataW Unit)}{J:List (String×DataW Unit)}{g:Nat}{t e:TypeId}{n c:Nat}
  (hg:P.globalNamed o=some g) (a1:(P.globals[g]?).map (·.type)=some t) (ht:P.underlying t=some (.array n e)) (Y:P.cellsOf e=c)
  (h:laidMet P ((o,.agg O)::J) W):∃(cs:Array Value) (enc:TypeId×Value->Unit) (base:Nat) (sp:Nat->Bool) (held:Bool) (m:Nat),W.var? P o=some cs/\O.length=n /\
   ∀i d,O[i]?=some d->∃p,DataW.trod enc P W base sp held m e ((cs.toList.drop (i*c)).take c)=some (d,p):=by
 obtain⟨ps,⟨g',t',cs,fuel,p,q,R,Z,K,hd,_,_⟩,_⟩:=h;obtain rfl:=aI (hg.symm.trans R);obtain rfl:=aI (a1.symm.trans Z);obtain⟨L,m,_,hx,_,G,X⟩:=DataW.trod_array ht hd
 have D:O=L.map (·.1):=by have:=cA Prod.fst hx;simpa using this
 refine⟨cs,λ_=>(),0,λ_=>true,false,m,K,by rw[D];simpa using G,?_⟩;intro i d hi
 have I:i<L.length:=by have:=(aE.1 hi).1;rw[D]at this;simpa using this
 have h9:=X i oM;rw[Y]at h9;refine⟨L[i].2,?_⟩;rw[h9,aJ I];rw[D,aX,aJ I]at hi;have:L[i].1=d:=by simpa using hi
 rw[<-this]
def zf2{i c j:Nat}{l:List Value}{v:Value}(h:(cs.drop (i*c)).take c=l)(d:l[j]?=some v):cs[i*c+j]?=some v:=by
 rw[<-h,List.getElem?_take]at d
 split at d
 ·rw[cQ]at d;exact d
 cases d
def yh8{b o:Nat}{v:Value}(h:W.cell? (aD b o)=some v):b<W.heap.size:=by
 rcases cC b W.heap.size with hh | hh
 ·exact hh
 simp[World.cell?,cU hh]at h
def zB5{rest:List (String×DataW Unit)}(h:laidMet Tryz.prog (("winnow/cfg.steps",Rows.laid_winnow_cfg_steps)::rest) W):EK W:=by
 rw [zM1] at h;have I:Tryz.prog.globalNamed "winnow/cfg.steps" = some 3:=by kernel_rfl
 obtain⟨cs,enc,base,sp,held,m,D,_,G⟩:=zR8 (g:=3) (t:=192) I kR Tryz.underlying192 wk9.1 h
 have d:∀k,k<16->(cs.toList.drop (k*2)).take 2=[.bool (decide (2<=k)&&decide (k<=8)),nI (opT.getD k 0)]:=by intro k o;obtain⟨p,J⟩:=G k _ (by rw[aX,cF o];rfl);exact yB4 J
 have cell:∀(j:Nat) (v:Value),cs.toList[j]?=some v->W.cell? ⟨3,j,none⟩=some v:=by intro j v J;rw[World.var?_cell I D j,<-fO];exact J
 exact⟨yh8 (cell _ _ (zf2 (j:=0) (d 0 dC) rfl)),λk o=>cell _ _ (zf2 (j:=0) (d k o) rfl),λk o=>cell _ _ (zf2 (j:=1) (d k o) rfl)⟩
def zB6{rest:List (String×DataW Unit)}(h:laidMet Tryz.prog (("winnow/parse.rules",Rows.laid_winnow_parse_rules)::rest) W):BE W:=by
 rw [zM2] at h;have I:Tryz.prog.globalNamed "winnow/parse.rules" = some 5:=by kernel_rfl
 obtain⟨cs,enc,base,sp,held,m,D,_,G⟩:=zR8 (g:=5) (t:=266) I kR Tryz.underlying266 wk8.2.2.2.2.2.2.1 h
 have d:∀k,k<16->(cs.toList.drop (k*9)).take 9=[.int .u8 (BK k),.bool (wc2 k),nI (wh6 k),nI (wj0 k),nI (wj1 k),.int .u8 (rH0 k),.int .u8 (rH1 k),.int .u8 (rH2 k),.int .u8 (FB k)]:=by intro k o;obtain⟨p,J⟩:=G k _ (by rw[aX,cF o];rfl);exact yB5 J
 have cell:∀(j:Nat) (v:Value),cs.toList[j]?=some v->W.cell? ⟨5,j,none⟩=some v:=by intro j v J;rw[World.var?_cell I D j,<-fO];exact J
 exact⟨yh8 (cell _ _ (zf2 (j:=0) (d 0 dC) rfl)),λk o=>cell _ _ (zf2 (j:=0) (d k o) rfl),λk o=>cell _ _ (zf2 (j:=1) (d k o) rfl),λk o=>cell _ _ (zf2 (j:=2) (d k o) rfl),λk o=>cell _ _ (zf2 (j:=3) (d k o) rfl),
  λk o=>cell _ _ (zf2 (j:=4) (d k o) rfl),λk o=>cell _ _ (zf2 (j:=5) (d k o) rfl),λk o=>cell _ _ (zf2 (j:=6) (d k o) rfl),λk o=>cell _ _ (zf2 (j:=7) (d k o) rfl),λk o=>cell _ _ (zf2 (j:=8) (d k o) rfl)⟩
def ys5:((List.range Tryz.prog.types.size).filter λt=>Tryz.prog.rowNamed t [101,114,114,111,114])=[103]:=by kernel_rfl
def yB6{x:String×DataW Unit}(J:x=("errors.errorType",Rows.laid_errors_errorType))(h:handlesMet Tryz.prog [x] W):W.cell? ⟨0,0,none⟩=some (.iface 197 (.agg #[.pointer (some ⟨8,103,none⟩)])):=by
 subst J;obtain ⟨d,u,K,I,O,R,G,D⟩:=h _ (aT.2 rfl);have en:d=[101,114,114,111,114]:=(aI I).symm;subst en;obtain rfl:=aI ((show (Tryz.prog.cutTypes.find? (·.1 == "internal/reflectlite.rtype")).map (·.2)=some 197 by kernel_rfl).symm.trans O);have o:K∈(List.range Tryz.prog.types.size).filter fun t=>Tryz.prog.rowNamed t [101,114,114,111,114]:=fY.2 ⟨List.mem_range.2 R,G⟩;rw [ys5] at o;obtain rfl:=aT.1 o;have L:typeHandle Tryz.prog 103=.pointer (some ⟨8,103,none⟩):=by kernel_rfl
 rw [L] at D;simpa using World.var?_cell (show Tryz.prog.globalNamed "errors.errorType" = some 0 by kernel_rfl) D 0
def zH5 : "*" ++ "errors.errorString" = "*errors.errorString" := by decide
def ys6(u:TypeId)(h:Tryz.prog.typeName? 3 u=some "*errors.errorString"):u=284 :=
 typeName_ptr_named (nm := "errors.errorString") (by rw [zH5];kernel_rfl) (by kernel_rfl) (by decide) u (by rw [zH5];exact h)
def zM3(h:laidMetH Tryz.prog Rows.partSplitsRow.laid W):we9 W:=by have G:laidMet Tryz.prog [("math/bits.deBruijn32tab",Rows.laid_math_bits_deBruijn32tab),("math/bits.deBruijn64tab",Rows.laid_math_bits_deBruijn64tab),("internal/strconv.uint64pow10",Rows.laid_internal_strconv_uint64pow10),("winnow/api.ErrReject",Rows.laid_winnow_api_ErrReject),("winnow/api.ErrConfig",Rows.laid_winnow_api_ErrConfig),("winnow/parse.rules",Rows.laid_winnow_parse_rules),("winnow/cfg.steps",Rows.laid_winnow_cfg_steps)] W/\handlesMet Tryz.prog [("errors.errorType",Rows.laid_errors_errorType)] W:=h;have D:=laidMet.tail (laidMet.tail G.1);have o:=laidMet.tail (laidMet.tail D);have d:=laidMet.tail o;obtain ⟨a,s,I,_⟩:=laid_sentinel (g:=1) (ti:=103) (tp:=284) (te:=302) (ts:=9) o kR kR Tryz.underlying103 (fun u J=>ys6 u J) Tryz.underlying284 Tryz.underlying302 rfl rfl Tryz.underlying9 kR kR;exact ⟨zB6 d,zB5 (laidMet.tail d),Lib.tabBelow_of_tabIs (Lib.tabIs_of_head (g:=4) (t:=256) kR kR Tryz.underlying256 Tryz.underlying242 kR kR D),⟨_,_,by simpa using World.var?_cell (show Tryz.prog.globalNamed "winnow/api.ErrConfig" = some 1 by kernel_rfl) I 0⟩,yB6 rfl G.2⟩
def yB7{P:Program}{H:Type}{enc:TypeId×Value->H}{w:World}{t e:TypeId}(ht:P.underlying t=some (.slice e))(hi:P.underlying e=some (.int .i64))(hc:P.cellsOf e=1){c:Value}{x:DataW H×List MemPlace}(h:DataW.trod enc P w 0 (λ_=>true) true fuel t [c]=some x) :
  ∃(l:List Int) (ao:Option Addr) (cap:Nat),c=.slice ao l.length cap/\SL w 1 c l.length (ilL l)/\∀y∈l,(Lit.int .i64 y).wf=true:=by
 rcases open_slice ht h with ⟨h0,_⟩ | ⟨a,d,cap,m,n,D,Pl,a1,_,hl,hm,Z,hx,R⟩
 ·have e0:c=sZ:=by simpa using h0
  exact⟨[],none,0,e0,⟨rfl,λu o=>(by cases o),none,0,e0,.inl rfl⟩,λy L=>(by cases L)⟩
 simp only[dD]at Z;subst Z;rw[hc]at R
 have hex:∀i,∃y:Int,i<d->w.cells? 0 (a.add (i*1)) 1=some [.int .i64 y]/\(Lit.int .i64 y).wf=true:=by
  intro i;by_cases I:i<d
  ·obtain⟨K,o,J⟩:=R i oM
   obtain⟨y,G,_,O⟩:=DataW.trod_int hi J;subst G;exact⟨y,λ_=>⟨o,O⟩⟩
  exact⟨0,λhh=>absurd hh I⟩
 obtain⟨f,hf⟩:=iB hex;have O:c=.slice (some a) d m:=by simpa using a1
 have G:((List.range d).map f).length=d:=by simp
 have a2:∀y∈(List.range d).map f,(Lit.int .i64 y).wf=true:=λy L=>by obtain⟨i,I,rfl⟩:=bX.1 L;exact(hf i (dJ.1 I)).2
 refine⟨(List.range d).map f,some a,m,by rw[G];exact O,⟨by simp[ilL],zJ6 _,some a,m,by rw[G];exact O,?_⟩,a2⟩;rcases Nat.eq_zero_or_pos d with e0 | hpos
 ·exact .inl (by rw[G];exact e0)
 right
 have J:∀i,i<d->w.cell? (a.add i)=some (nI (f i)):=λi I=>by have Y:=(World.cells?_some (hf i I).1).2.2 0 dC;rw[Nat.mul_one]at Y;simpa[Addr.add] using Y
 obtain⟨b,o,y⟩:=a;have K:=J 0 hpos;have L:y=none:=by simpa[Addr.add] using World.cell?_spot K
 subst L;refine⟨b,o,rfl,?_,λj u hj=>?_⟩
 ·rcases cC b w.heap.size with hh | hh
  ·exact hh
  rw[Go.WideShapes.add_plain]at K;simp[World.cell?,cU hh]at K
 have X:j<d:=by have:=(aE.1 hj).1;simpa[ilL] using this
 have Y:=J j X;rw[Go.WideShapes.add_plain]at Y;rw[Y];unfold ilL at hj;simpa[X] using hj
def wr8:Tryz.prog.cellsOf 3=1/\Tryz.prog.cellsOf 2=1/\Tryz.prog.cellsOf 22=1/\Tryz.prog.cellsOf 24=9:=by refine⟨?_,?_,?_,?_⟩<;>kernel_rfl
def cfN(a0 a1 a2 a3 a4 a5 a7 a8:Int):Nat->Int
 | 0=>a0
 | 1=>a1
 | 2=>a2
 | 3=>a3
 | 4=>a4
 | 5=>a5
 | 7=>a7
 | 8=>a8
 | _=>0
end Go.Proofs.YthoegkcpmgalbaaGreatDoor
