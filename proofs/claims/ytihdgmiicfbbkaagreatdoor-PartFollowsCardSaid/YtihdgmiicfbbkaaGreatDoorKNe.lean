import Derived.Test.YtihdgmiicfbbkaaGreatDoorKNd
set_option linter.all false
set_option maxRecDepth 100000
namespace Go.Proofs.YtihdgmiicfbbkaaGreatDoor
variable{a:Act}{i:Nat}{listed:Array Bool}{w:World}
section
open Go
section
variable {P:Program} {ops:Array Oper} {Q:Exit->Act->World->Prop} {md:Region.Mode} {S:World->Prop} {n:Nat}
def wpAnyT (P:Program) (md:Region.Mode) (ops:Array Oper) (Q:Exit->Act->World->Prop) (S:World->Prop) (n:Nat):Nat->Array Bool->Act->World->Prop
 | 0,listed,a,w=>Region.ready md ops listed=[]/\Q .normal a w
 | fuel+1,listed,a,w =>
  (Region.ready md ops listed=[]->Q .normal a w) /\
  ∀ i∈Region.ready md ops listed,wpOp P ops Q i (fun a' w'=>(i<n->S w')/\wpAnyT P md ops Q S n fuel (listed.setIfInBounds i true) a' w') a w
theorem yF6:∀ (fuel:Nat) (listed:Array Bool) (a:Act) (w:World),wpAnyT P md ops Q S n fuel listed a w->wpAny P md ops Q fuel listed a w
 | 0,_,_,_,h=>h
 | fuel+1,_,_,_,h=>⟨h.1,fun i hi=>wpOp_mono (fun a' w' h'=>yF6 fuel _ a' w' h'.2) (h.2 i hi)⟩
def Clo (md:Region.Mode) (ops:Array Oper) (listed:Array Bool):Prop:=∀ (j:Nat) (o:Oper),ops[j]?=some o->listed.getD j false=true->∀ e∈o.after,Region.binds md e=true->listed.getD e.on false=true
def cloB (md:Region.Mode) (ops:Array Oper) (listed:Array Bool):Bool:=(List.range ops.size).all fun j => !(listed.getD j false)||(match ops[j]? with | some o=>o.after.all fun e => !(Region.binds md e)||listed.getD e.on false | none=>true)
theorem yH1 (h:cloB md ops listed=true):Clo md ops listed:=by intro j o hj hl e he hb;have hs:j<ops.size:=(Array.getElem?_eq_some_iff.1 hj).1;have h1:=List.all_eq_true.1 h j (List.mem_range.2 hs);rw [hl,hj] at h1;simp only [Bool.not_true,Bool.false_or] at h1;have h2:=(Array.all_eq_true'.1 h1) e he;rw [hb] at h2;simpa using h2
def waitT (md:Region.Mode) (ops:Array Oper):Nat->Nat->Nat->Bool
 | 0,_,_=>false
 | f+1,j,i=>match ops[j]? with
  | some o=>o.after.any fun e=>Region.binds md e&&((e.on==i)||waitT md ops f e.on i)
  | none=>false
theorem Clo.reach (h:Clo md ops listed):∀ (f j i:Nat),waitT md ops f j i=true->listed.getD j false=true->listed.getD i false=true
 | 0,_,_,hw,_=>by cases hw
 | f+1,j,i,hw,hl=>by
  unfold waitT at hw
  split at hw
  ·rename_i o ho
   rw [Array.any_eq_true'] at hw;obtain ⟨e,he,h2⟩:=hw;simp only [Bool.and_eq_true,Bool.or_eq_true,beq_iff_eq] at h2;have hl2:=h j o ho hl e he h2.1;rcases h2.2 with h3 | h3
   ·subst h3;exact hl2
   exact Clo.reach h f _ _ h3 hl2
  cases hw
theorem Clo.ready (h:Clo md ops listed) {f j:Nat} (hw:waitT md ops f j i=true) (hr:j∈Region.ready md ops listed):listed.getD i false=true:=by
 obtain ⟨_,oj,hoj,hall⟩:=mem_ready.1 hr
 cases f with
 | zero=>cases hw
 | succ f =>
  unfold waitT at hw;rw [hoj] at hw;simp only [Array.any_eq_true',Bool.and_eq_true,Bool.or_eq_true,beq_iff_eq] at hw;obtain ⟨e,he,h2⟩:=hw;have hl2:=hall e he h2.1;rcases h2.2 with h3 | h3
  ·subst h3;exact hl2
  exact h.reach f _ _ h3 hl2
theorem Clo.next (h:Clo md ops listed) {j:Nat} (hr:j∈Region.ready md ops listed):Clo md ops (listed.setIfInBounds j true):=by
 obtain ⟨_,oj,hoj,hall⟩:=mem_ready.1 hr
 have up:∀ m,listed.getD m false=true->(listed.setIfInBounds j true).getD m false=true:=fun m hm=>by
  by_cases e:j=m
  ·subst e
   have:j<listed.size:=by
    rcases Nat.lt_or_ge j listed.size with h1 | h1
    ·exact h1
    simp [Array.getElem?_eq_none h1] at hm
   simp [this]
  rw [getD_set_ne false e];exact hm
 intro k ok hk hl e he hb;by_cases c:j=k
 ·subst c
  rw [hoj] at hk;cases hk;exact up _ (hall e he hb)
 rw [getD_set_ne false c] at hl;exact up _ (h k ok hk hl e he hb)
theorem yF8 {oi:Oper} {v:Value} (hi:ops[i]?=some oi) (hsel:∀ (j:Nat) (o:Oper) cs b,ops[j]?=some o->o.op≠.select cs b)
  (hw:∀ j,n<=j->j<ops.size->j≠i->waitT md ops ops.size j i=true)
  (hQ:∀ c a w,Q (.panic c) (a.put oi.dst v) w->Q (.panic c) a w) :
  ∀ (fuel:Nat) (listed:Array Bool) (a:Act) (w:World),Clo md ops listed ->
   (∀ j oj,ops[j]?=some oj->j≠i->listed.getD j true=false->(∀ e∈oj.after,Region.binds md e=true->e.on≠i)->oi.apart ops oj=true) ->
   i∈Region.ready md ops listed->YieldsIf P ops S oi v a->S w ->
   wpAnyT P md ops Q S n fuel (listed.setIfInBounds i true) (a.put oi.dst v) w->wpAnyT P md ops Q S n (fuel+1) listed a w:=by
 intro fuel
 induction fuel with
 | zero =>
  intro listed a w _ _ hr hy hS H;refine ⟨fun h=>(by rw [h] at hr;cases hr),fun j hj=>?_⟩;by_cases hji:j=i
  ·subst hji;exact hy.wpOp hi hS ⟨fun _=>hS,H⟩
  have:=ready_mono hj hji;rw [H.1] at this;cases this
 | succ fuel ih =>
  intro listed a w hcl hfree hr hy hS H;refine ⟨fun h=>(by rw [h] at hr;cases hr),fun j hj=>?_⟩;by_cases hji:j=i
  ·subst hji;exact hy.wpOp hi hS ⟨fun _=>hS,H⟩
  have h1:=H.2 j (ready_mono hj hji);obtain ⟨hjun,oj,hoj,hall⟩:=mem_ready.1 hj
  have hnl:¬listed.getD i false=true:=fun h9=>by
   have h0:=(mem_ready.1 hr).1;rcases Nat.lt_or_ge i listed.size with h' | h'
   ·simp [h'] at h0 h9;rw [h0] at h9;cases h9
   simp [Array.getElem?_eq_none h'] at h9
  have hnot:∀ e∈oj.after,Region.binds md e=true->e.on≠i:=fun e he hb heq=>hnl (heq ▸ hall e he hb)
  have hjn:j<n:=by
   rcases Nat.lt_or_ge j n with h' | h'
   ·exact h'
   exact absurd (hcl.ready (hw j h' (Array.getElem?_eq_some_iff.1 hoj).1 hji) hj) hnl
  have h2:=wpOp_putIf hoj (hfree j oj hoj hji hjun hnot) (fun cs b=>hsel i oi cs b hi) (fun cs b=>hsel j oj cs b hoj) hQ hy h1
  have hfree':∀ k ok,ops[k]?=some ok->k≠i->(listed.setIfInBounds j true).getD k true=false ->
    (∀ e∈ok.after,Region.binds md e=true->e.on≠i)->oi.apart ops ok=true:=fun k ok hk hki hun hno=>by
   refine hfree k ok hk hki ?_ hno;by_cases hjk:j=k
   ·subst hjk;exact hjun
   rw [getD_set_ne true hjk] at hun;exact hun
  refine wpOp_mono (fun a' w' h3=>⟨h3.2.1,ih (listed.setIfInBounds j true) a' w' (hcl.next hj) hfree' (ready_mono hr (Ne.symm hji)) h3.1 (h3.2.1 hjn) ?_⟩) h2;rw [Array.setIfInBounds_comm _ _ hji];exact h3.2.2
theorem yF0 {oi:Oper} {v:Value} {fuel:Nat} (hi:ops[i]?=some oi)
  (hs:Region.noSelect ops=true) (hf:Region.free md ops listed i=true) (hr:(Region.ready md ops listed).contains i=true)
  (hn:((List.range ops.size).all fun j=>decide (j<n)||(j==i)||waitT md ops ops.size j i)=true) (hc:cloB md ops listed=true)
  (hQ:∀ c a w,Q (.panic c) (a.put oi.dst v) w->Q (.panic c) a w) (hS:S w) (hy:YieldsIf P ops S oi v a)
  (h:wpAnyT P md ops Q S n fuel (listed.setIfInBounds i true) (a.put oi.dst v) w):wpAnyT P md ops Q S n (fuel+1) listed a w :=
 yF8 hi (Region.noSelect_spec hs) (fun j h1 h2 h3=>by
  have h4:=List.all_eq_true.1 hn j (List.mem_range.2 h2);simp only [Bool.or_eq_true,decide_eq_true_eq,beq_iff_eq] at h4;rcases h4 with (h5 | h5) | h5
  ·omega
  ·exact absurd h5 h3
  exact h5) hQ fuel listed a w (yH1 hc) (Region.free_spec hi hf) (by simpa using hr) hy hS h
theorem yF4 {o:Oper} {fuel:Nat} (hr:Region.ready md ops listed=[i]) (ho:ops[i]?=some o)
  (h:∀ K':Act->World->Prop,Shut (∀ a w,(i<n->S w)->wpAnyT P md ops Q S n fuel (listed.setIfInBounds i true) a w->K' a w)->if Region.wanted o (yielded ops a.tmps)=true then Oper.wp P o a w K' Q else K' (a.put o.dst undef) w) :
  wpAnyT P md ops Q S n (fuel+1) listed a w:=by
 refine ⟨fun h0=>(by rw [hr] at h0;cases h0),fun j hj=>?_⟩;rw [hr,List.mem_singleton] at hj;subst hj;exact wpOp_step ho (fun K' hK=>h K' (fun a w hS hW=>hK a w ⟨hS,hW⟩))
theorem yF1:∀ (fuel:Nat) (listed:Array Bool) (a:Act) (w:World),(∀ i,i<n->listed.getD i true=true)->wpAnyH P md ops Q (fun _=>True) fuel listed a w->wpAnyT P md ops Q S n fuel listed a w
 | 0,_,_,_,_,h=>h
 | fuel+1,listed,a,w,hl,h=>⟨h.1,fun i hi=>wpOp_mono (fun a' w' h'=>⟨fun hlt=>(by
   have:=(mem_ready.1 hi).1;rw [hl i hlt] at this
   cases this),yF1 fuel _ a' w' (fun k hk=>by
   by_cases e:i=k
   ·subst e
    have:=(mem_ready.1 hi).1;rw [hl i hk] at this;cases this
   rw [getD_set_ne true e];exact hl k hk) h'.2⟩) (h.2 i hi)⟩
theorem yG0 {id:Nat} (S:World->Prop) (n:Nat) (hm:P.follows .mixedOrders=true)
  (h:wpAnyT P .any ops Q S n ops.size (Array.replicate ops.size false) a w.drew):(Code.region id ops true).wp P Q a w :=
 wp_region_any hm (yF6 _ _ _ _ h)
end
end
section
open Go.RowKit Go.Maps
def QC (F:QPar) (p:Pl) (c:Nat->Int) (tz:Option Addr) (tn tc:Nat):Prop:=F.a 9=nI (c 0)/\F.a 10=nI (c 1)/\F.a 11=nI (c 2)/\F.a 12=nI (c 3)/\F.a 13=nI (c 4)/\F.a 14=nI (c 5)/\F.a 15=.slice tz tn tc/\F.a 16=nI (c 7)/\F.a 17=nI (c 8)/\p.H=c 0/\p.U=c 1
def QdIs (w0:World) (F:QPar) (p:Pl) (f:Nat) (e:Ending) (w':World):Prop :=
 match p.find f with
 | .inl n=>e=.returned (nI n)/\Ok w0 w'
 | .inr r=>e=.returned (nI (-1))/\∃ vv lv,QS w0 F w' vv lv r.1 r.1 r.1 r.2
def QO (w0:World) (F:QPar) (p:Pl) (f fr:Nat) (wr:World):Prop:=∃ (vv lv:Value) (vs:List Vx) (ls:List Lk),QS w0 F wr vv lv vs vs vs ls/\VJ p vs/\FI p fr vs ls/\fr<=f/\p.verts (f-fr) fr vs ls=p.find f
def QI (w0:World) (F:QPar) (p:Pl) (fr k:Nat) (v:Vx) (vs:List Vx) (ls:List Lk) (wi:World):Prop:=∃ (vv lv:Value) (vs2:List Vx) (ls2:List Lk),QS w0 F wi vv lv vs2 vs2 vs2 ls2/\VJ p vs2/\(∃ ws,vs2=vs++ws)/\p.edges fr v.2 ((outE p.es v.1).drop (outP p.es v.1 k).length) vs2 ls2=p.edges fr v.2 (outE p.es v.1) vs ls/\ls2.length=ls.length+(outP p.es v.1 k).length
theorem VJ.nil (p:Pl):VJ p []:=⟨fun v hv=>(by cases hv),fun i v hv=>(by simp at hv),⟨List.nodup_nil,fun n=>(by simp [many]),fun v hv=>(by cases hv),fun v hv=>(by cases hv)⟩⟩
set_option maxHeartbeats 16000000 in
theorem yG2 {w0:World} {F:QPar} {p:Pl} (N f:Nat) (c:Nat->Int) (tz:Option Addr) (tn tc:Nat) (w:World) (h:QS w0 F w (sZ) (sZ) [] [] [] []) (hF:QOk w0 F p) (hp:PB N p) (hf:N*p.cap<f) (he:w0.ownsRow 0 103 6 (F.a 8) p.es.length (edL p.es)) (hc:QC F p c tz tn tc) :
  Calls Tryz.prog 18 #[pA F.gf 0] w fun e w'=>QdIs w0 F p f e w':=by
 have HF:=hid hF;have HB:=hid hp;have HN:=hid hf;have HC:=hid hc;obtain ⟨eo,ec,e8⟩:=za0 he;rw [e8] at he;obtain ⟨em,hem⟩:=qq (p.es.length);have HEM:Hi (em=p.es.length):=hem;have HE8:Hi (F.a 8=.slice eo em ec):=by rw [hem];exact e8
 have HE:Hi (w0.ownsRow 0 103 6 (.slice eo em ec) em (edL p.es)):=by rw [hem];exact he
 have HV0:Hi (Calls Tryz.prog 35 #[pA F.gf 0,nI ((0:Nat):Int),.agg #[.bool false,sZ,sZ]] w fun e w'=>QtIs w0 F p (sZ) [] [] 0 tokE w (sZ) e w'):=yF3 (k:=0) h hF (VJ.nil p) oM (.inl rfl) tokE _ _ ⟨World.ownsRow_nil _ _ _ _,World.ownsRow_nil _ _ _ _⟩ (fun e=>by simp [tokE] at e) ⟨by simp [tokE],by simp [tokE],by simp [tokE],by simp [tokE]⟩ (by simp);clear h hF hp hf hc he e8 hem;go_enter Tryz.func18,Tryz.ntmps18;go_wp2_with fail;refine HV0.o.mono ?_;rintro e w1 hv;unfold QtIs at hv;rw [zU3 p HB.o.pos] at hv;obtain ⟨rfl,vv1,hS1,hJ1,_⟩:=hv;have HO1:Hi (QO w0 F p f 0 w1):=⟨_,_,_,_,hS1,hJ1,FI.start p HB.o.pos,zL_ _,rfl⟩;clear hS1 hJ1 HV0;go_wp2_with fail;go_loopw [3] (fun t3 wr=>∃ fr:Nat,t3=nI (fr:Nat)/\Hi (QO w0 F p f fr wr)) (fun t3 _=>((f:Int)+1-intOf t3).toNat)
 case atStart=>exact ⟨0,rfl,HO1⟩
 clear HO1;obtain ⟨fr,rfl,HR⟩:=hrel;obtain ⟨vv,lv,vs,ls,hS,hJ,hFI,hfr,hve⟩:=HR.o;have HJ:=hid hJ;have HFI:=hid hFI;have HVE:Hi (fr<=f/\p.verts (f-fr) fr vs ls=p.find f):=⟨hfr,hve⟩;have HLN:Hi (vs.length<=N*p.cap/\N*p.cap<=10000/\fr<=vs.length):=⟨hJ.vi.len HB.o.win,by have h1:=Nat.mul_le_mul HB.o.small.1 HB.o.small.2.1;omega,hFI.le⟩;obtain ⟨tl,htl,hvo,hold⟩:=hS.vo;obtain ⟨vo,vc,rfl⟩:=za0 hvo;obtain ⟨vn,hvn⟩:=qq (vs.length);have HVN:Hi (vn=vs.length):=hvn;rw [<-hvn] at hS;have HS:=hid hS;obtain ⟨c11,c18,c19,c20,c21,c22,cfz,lgf⟩:=hS.cells HF.o;clear hS hJ hFI hfr hve htl hvo hold hvn HR;have hkw:IntKind.i64.wrap ((fr:Int)+1)=((fr+1:Nat):Int):=zb3 (by have:=HLN.o;omega);by_cases hlt:fr<vn;rotate_left
 ·have hlt':¬(fr:Int)<(vn:Int):=oM
  have HFD:Hi (p.find f=.inr (vs,ls)):=by
   unfold Hi;rw [<-HVE.o.2];have hnone:vs[fr]?=none:=List.getElem?_eq_none (by have:=HVN.o;omega)
   cases f-fr with
   | zero=>rfl
   | succ g=>unfold Pl.verts;rw [hnone]
  go_wp2_with fail;go_ret;unfold QdIs;rw [HFD.o];exact ⟨rfl,_,_,HS.o⟩
 have hlt':(fr:Int)<(vn:Int):=za5 hlt;obtain ⟨v,hv⟩:∃ v,vs[fr]?=some v:=⟨_,gG_ (by have:=HVN.o;omega)⟩;have HV:Hi (vs[fr]?=some v):=hv;have HVT:Hi (TokOk v.2/\TkB fr v.2):=⟨HJ.o.tok v (mG_ hv),HJ.o.bnd fr v hv⟩;have HQI:Hi (QI w0 F p fr 0 v vs ls wr):=⟨_,_,vs,ls,HS.o,HJ.o,⟨[],by simp⟩,by rw [zs9];rfl,by rw [zs9];rfl⟩;clear hv;go_wp2_with fail;clear c11 c18 c19 c20 c21 c22 cfz lgf hlt';go_loopw [4] (fun t4 wi=>∃ k:Nat,t4=nI (k:Nat)/\k<=em/\Hi (QI w0 F p fr k v vs ls wi)) (fun t4 _=>((em:Int)-intOf t4).toNat)
 case atStart=>exact ⟨0,rfl,zL_ _,HQI⟩
 clear HQI HS;obtain ⟨k,rfl,hkm,HR⟩:=hrel;obtain ⟨vv2,lv2,vs2,ls2,hS2,hJ2,hws,hed,hll⟩:=HR.o;have HJ2:=hid hJ2;have HWS:Hi ((∃ ws,vs2=vs++ws)/\p.edges fr v.2 ((outE p.es v.1).drop (outP p.es v.1 k).length) vs2 ls2=p.edges fr v.2 (outE p.es v.1) vs ls/\ls2.length=ls.length+(outP p.es v.1 k).length):=⟨hws,hed,hll⟩;obtain ⟨lo2,lc2,rfl⟩:=za0 hS2.lo;obtain ⟨tl2,htl2,hvo2,hold2⟩:=hS2.vo;obtain ⟨vo2,vc2,rfl⟩:=za0 hvo2;obtain ⟨vn2,hvn2⟩:=qq (vs2.length);obtain ⟨ln2,hln2⟩:=qq (ls2.length);have HVN2:Hi (vn2=vs2.length/\ln2=ls2.length):=⟨hvn2,hln2⟩;rw [<-hvn2,<-hln2] at hS2;rw [<-hvn2] at hvo2;have HS2:=hid hS2;have HVO2:Hi (wr.ownsRow F.B 105 4 (.slice vo2 vn2 vc2) vn2 (vxL vs2 tl2)):=hvo2
 have hfv2:vs2[fr]?=some v:=by obtain ⟨ws,e⟩:=hws;rw [e,List.getElem?_append_left (List.getElem?_eq_some_iff.1 HV.o).1];exact HV.o
 have hfn2:fr<vn2:=by have h:=(List.getElem?_eq_some_iff.1 hfv2).1;omega
 obtain ⟨x,hx⟩:∃ x,tl2[fr]?=some x:=⟨_,List.getElem?_eq_getElem (by rw [htl2];omega)⟩;have hto:=hold2 fr v x hfv2 hx;obtain ⟨xo,xc,hx1⟩:=za0 hto.hist;obtain ⟨yo,yc,hx2⟩:=za0 hto.loops;obtain ⟨x1,x2⟩:=x;simp only at hx1 hx2;subst hx1 hx2;obtain ⟨xn,hxn⟩:=qq (v.2.2.1.length);obtain ⟨yn,hyn⟩:=qq (v.2.2.2.length);obtain ⟨tb,htb⟩:=qq (v.2.1);have HTB:Hi (tb=v.2.1):=htb;obtain ⟨vb,cap,e1,_⟩:=hvo2.form oM
 injection e1 with e1 e6 e7
 subst e1;clear e6 e7;obtain ⟨x0,x1,x2,x3⟩:=zA2 hfv2 hx;have m0:=hvo2.cells (g:=vb) rfl _ _ x0;have m1:=hvo2.cells (g:=vb) rfl _ _ x1;have m2:=hvo2.cells (g:=vb) rfl _ _ x2;have m3:=hvo2.cells (g:=vb) rfl _ _ x3;rw [zb7,Nat.zero_add] at m0 m1 m2 m3;rw [<-htb] at m1;rw [<-hxn] at m2;rw [<-hyn] at m3;rw [<-hxn,<-hyn] at hto;have HTO:Hi (TokOwn wr F.B (.slice xo xn xc) (.slice yo yn yc) v.2):=hto;have lvb:=(hvo2.lt vb rfl).2;obtain ⟨c11,c18,c19,c20,c21,c22,cfz,lgf⟩:=hS2.cells HF.o;have c8:wr.cell? (aD F.gf 8)=some (.slice eo em ec):=(cell_of_row _ _ 8 _ _ _ hS2.row).trans (by rw [<-HE8.o];rfl);clear hS2 hJ2 hws hed hll htl2 hold2 hx hto hxn hyn htb x0 x1 x2 x3 HR hvn2 hln2 hvo2 hfv2;by_cases hkl:k<em;rotate_left
 ·have hkl':¬(k:Int)<(em:Int):=oM
  have HEND:Hi (p.edges fr v.2 (outE p.es v.1) vs ls=.inr (vs2,ls2)):=by unfold Hi;rw [<-HWS.o.2.1,show k=p.es.length by have:=HEM.o;omega,zP8,List.drop_eq_nil_of_le (Nat.le_refl _)];rfl
  have HNO:Hi (QO w0 F p f (fr+1) wr):=by
   have hff:f-fr=(f-(fr+1))+1:=by have h2:=HLN.o;have h3:=HN.o;have h4:=HVN.o;omega
   refine ⟨_,_,vs2,ls2,HS2.o,HJ2.o,HFI.o.next HV.o HEND.o,by have h2:=HLN.o;have h3:=HN.o;have h4:=HVN.o;omega,?_⟩;rw [<-HVE.o.2,hff]
   conv=>rhs;unfold Pl.verts
   rw [HV.o];simp only [HEND.o]
  go_wp2_with fail;go_roundw
  case rel=>exact ⟨fr+1,rfl,HNO⟩
  case measure=>simp only [intOf];have h2:=HLN.o;have h3:=HN.o;omega
 have hkl':(k:Int)<(em:Int):=za5 hkl;have kw:IntKind.i64.wrap ((k:Int)+1)=((k+1:Nat):Int):=zb3 (by have h1:=HB.o.small;have:=HEM.o;omega);obtain ⟨e,hed⟩:∃ e,p.es[k]?=some e:=⟨_,gG_ (by have:=HEM.o;omega)⟩;have HED:Hi (p.es[k]?=some e):=hed;have ho:=za1 HE.o HS2.o.ok;obtain ⟨eb,cap,e1,_⟩:=ho.form oM
 injection e1 with e1 e6 e7
 subst e1;clear e6 e7
 have hcl:∀ j u,(edV e)[j]?=some u->wr.cell? ⟨eb,k*6+j,none⟩=some u:=fun j u hj=>by have h1:=ho.cells (g:=eb) rfl (k*6+j) u (zp6 hed j u hj);rw [zb7,Nat.zero_add] at h1;exact h1
 have r0:wr.cell? ⟨eb,k*6,none⟩=some (nI e.from'):=hcl 0 _ rfl;have r1:wr.cell? ⟨eb,k*6+1,none⟩=some (nI e.to'):=hcl 1 _ rfl;have r2:wr.cell? ⟨eb,k*6+2,none⟩=some (nI e.op):=hcl 2 _ rfl;have r3:wr.cell? ⟨eb,k*6+3,none⟩=some (nI e.place):=hcl 3 _ rfl;have r4:wr.cell? ⟨eb,k*6+4,none⟩=some (.bool e.sense):=hcl 4 _ rfl;have r5:wr.cell? ⟨eb,k*6+5,none⟩=some (.bool e.loop):=hcl 5 _ rfl;have leb:=(ho.lt eb rfl).2;clear hcl ho hed
 go_upto_region 9 with (fail)
 obtain ⟨V,hV⟩:=qq (wr.alloc (Obj.cells #[nI e.from',nI e.to',nI e.op,nI e.place,.bool e.sense,.bool e.loop] 103));obtain ⟨g5,hg5⟩:=qq (wr.heap.size);rw [<-hV,<-hg5];have HKV:Hi (Ok wr V):=by rw [hV];exact (Ok.refl wr).alloc _
 have HR5:Hi (V.heap[g5]?=some (.cells #[nI e.from',nI e.to',nI e.op,nI e.place,.bool e.sense,.bool e.loop] 103 (0,0))):=by rw [hV,hg5];exact za3 _ _
 have HG5:Hi (g5=wr.heap.size):=hg5;have HM:Hi (∀ Y,Ok wr Y->Y.cell? (aD F.gf 19)=some (.slice (sA vb 0) vn2 vc2)/\F.gf<Y.heap.size/\Y.cell? ⟨vb,fr*4,none⟩=some (nI v.1)/\Y.cell? ⟨vb,fr*4+1,none⟩=some (.bool tb)/\Y.cell? ⟨vb,fr*4+2,none⟩=some (.slice xo xn xc)/\Y.cell? ⟨vb,fr*4+3,none⟩=some (.slice yo yn yc)/\vb<Y.heap.size):=fun Y hY=>⟨hY.cell (p:=⟨F.gf,19,none⟩) lgf c19,lL_ lgf hY.le,hY.cell (p:=⟨vb,fr*4,none⟩) lvb m0,hY.cell (p:=⟨vb,fr*4+1,none⟩) lvb m1,hY.cell (p:=⟨vb,fr*4+2,none⟩) lvb m2,hY.cell (p:=⟨vb,fr*4+3,none⟩) lvb m3,lL_ lvb hY.le⟩;clear hV hg5 r0 r1 r2 r3 r4 r5 leb c8 c11 c18 c19 c20 c21 c22 cfz lgf m0 m1 m2 m3 lvb;obtain ⟨c19,lgf,m0,m1,m2,m3,lvb⟩:=HM.o V HKV.o;obtain ⟨y0,y1,y2,y3,y4,y5,ly⟩:=row6 HR5.o;have hf1:(0:Int)<=(fr:Int):=oM;have hf2:(fr:Int)<(vn2:Int):=oM;have hf3:¬((vn2:Int)<=(fr:Int)):=oM;by_cases hfr:e.from'=v.1;rotate_left
 ·have hfb:(e.from'==v.1)=false:=by rw [beq_eq_false_iff_ne];exact hfr
  have HON:Hi (outP p.es v.1 (k+1)=outP p.es v.1 k):=by unfold Hi;rw [zl7 HED.o,if_neg hfr,List.append_nil]
  have HNQ:Hi (∀ Y,Ok V Y->QI w0 F p fr (k+1) v vs ls Y):=fun Y hY=>⟨_,_,vs2,ls2,HS2.o.step (HKV.o.step hY),HJ2.o,HWS.o.1,by rw [HON.o];exact HWS.o.2.1,by rw [HON.o];exact HWS.o.2.2⟩;clear hfr;go_quiet (fail);go_wp2_with fail;go_roundw
  case rel=>exact ⟨k+1,rfl,hkl,HNQ.o _ ((Ok.refl V).draws _)⟩
  case measure=>simp only [intOf];omega
 have hfb:(e.from'==v.1)=true:=by rw [beq_iff_eq];exact hfr
 have HFR:Hi (e.from'=v.1):=hfr;clear hfr;go_quiet (fail)
 go_upto_region 10 with (fail)
 clear c19 lgf m0 m1 m2 m3 lvb y0 y1 y2 y3 y4 y5 ly hf1 hf2 hf3 hfb;obtain ⟨V2,hV2⟩:=qq (V.drewN nq);rw [<-hV2];have HKV2:Hi (Ok V V2):=by rw [hV2];exact (Ok.refl V).draws _
 clear hV2;have HKW:Hi (Ok wr V2):=HKV.o.step HKV2.o;have HR6:Hi (V2.heap[g5]?=_):=Ok.row' HKV2.o HR5.o;have HSV:=hid (HS2.o.step HKW.o);have HTV:Hi (TokOwn V2 F.B (.slice xo xn xc) (.slice yo yn yc) v.2):=HTO.o.ok HKW.o;have HVV:Hi (V2.ownsRow F.B 105 4 (.slice (sA vb 0) vn2 vc2) vn2 (vxL vs2 tl2)):=za1 HVO2.o HKW.o;obtain ⟨kt,hkt,hktN⟩:∃ kt:Nat,e.to'=(kt:Int)/\kt<N:=⟨e.to'.toNat,by have:=HB.o.win.2 e (mG_ HED.o);omega,by have:=HB.o.win.2 e (mG_ HED.o);omega⟩;have HKT:Hi (e.to'=(kt:Int)/\kt<N):=⟨hkt,hktN⟩;obtain ⟨st,hst⟩:=qq (stepT p.H p.U e k v.2);have HST:=hid hst
 have HTG:Hi (TokOk st/\TkB vs2.length st/\vs2.length<=100000):=by
  have h1:=HB.o.frm e (mG_ HED.o);have h2:=HB.o.small;obtain ⟨ws,h3⟩:=HWS.o.1;have h4:vs.length<=vs2.length:=by rw [h3,List.length_append];omega
  have h5:=HJ2.o.vi.len HB.o.win;have h6:=HLN.o;have h7:=HVN.o;have h8:=HEM.o;unfold Hi;rw [hst];exact ⟨TokOk.step HVT.o.1,(TkB.step HVT.o.2 (by unfold I64;omega) (by unfold I64;omega) HB.o.unr).up oM,by omega⟩
 have HBE:Hi (∀ Y,Ok V2 Y->Calls Tryz.prog 36 #[.agg #[nI e.from',nI e.to',nI e.op,nI e.place,.bool e.sense,.bool e.loop],nI (k:Nat),.agg #[nI (c 0),nI (c 1),nI (c 2),nI (c 3),nI (c 4),nI (c 5),.slice tz tn tc,nI (c 7),nI (c 8)],.agg #[.bool tb,.slice xo xn xc,.slice yo yn yc]] Y fun ex w'=>∃ hv' lv',ex=.returned (.agg #[.bool st.1,hv',lv'])/\TokOwn w' Y.heap.size hv' lv' st/\Ok Y w'):=fun Y hY=>by obtain ⟨_,_,_,_,_,_,_,_,_,qH,qU⟩:=HC.o;have h8:=HEM.o;have h9:=HLN.o;have h10:=HVN.o;rw [HTB.o,HST.o,qH,qU];exact yH5 e k c tz tn tc _ _ v.2 Y (HTV.o.ok hY).is (HVT.o.2.up (by omega)) (by have h2:=HB.o.small;omega) (by rw [<-qU];exact HB.o.unr.2)
 have HVX:Hi (∀ Y hv lvv,Ok V2 Y->TokOwn Y F.B hv lvv st->Calls Tryz.prog 35 #[pA F.gf 0,nI e.to',.agg #[.bool st.1,hv,lvv]] Y fun e' w'=>QtIs w0 F p (.slice lo2 ln2 lc2) vs2 ls2 kt st Y (.slice (sA vb 0) vn2 vc2) e' w'):=fun Y hv lvv hY ht=>by rw [HKT.o.1];exact yF3 (k:=kt) (HSV.o.step hY) HF.o HJ2.o (by have:=HKT.o.2;have:=HB.o.small.1;omega) (.inr ⟨e,mG_ HED.o,HKT.o.1⟩) st hv lvv ht HTG.o.1 HTG.o.2.1 HTG.o.2.2
 have HNX:Hi (p.edges fr v.2 (outE p.es v.1) vs ls=match p.vert vs2 (kt:Int) st with | none=>.inl (kt:Int) | some r=>p.edges fr v.2 ((outE p.es v.1).drop ((outP p.es v.1 k).length+1)) r.1 (ls2++[(fr,r.2,k)])):=by unfold Hi;rw [<-HWS.o.2.1,zU4 (yx9 HED.o HFR.o),HKT.o.1,HST.o];rfl
 have HCL:Hi (∀ Y,Ok V2 Y->(Y.cell? (aD F.gf 9)=some (nI (c 0))/\Y.cell? (aD F.gf 10)=some (nI (c 1))/\Y.cell? (aD F.gf 11)=some (nI (c 2))/\Y.cell? (aD F.gf 12)=some (nI (c 3))/\Y.cell? (aD F.gf 13)=some (nI (c 4))/\Y.cell? (aD F.gf 14)=some (nI (c 5))/\Y.cell? (aD F.gf 15)=some (.slice tz tn tc)/\Y.cell? (aD F.gf 16)=some (nI (c 7))/\Y.cell? (aD F.gf 17)=some (nI (c 8))/\F.gf<Y.heap.size)/\(Y.cell? (aD F.gf 19)=some (.slice (sA vb 0) vn2 vc2)/\Y.cell? ⟨vb,fr*4+1,none⟩=some (.bool tb)/\Y.cell? ⟨vb,fr*4+2,none⟩=some (.slice xo xn xc)/\Y.cell? ⟨vb,fr*4+3,none⟩=some (.slice yo yn yc)/\vb<Y.heap.size)/\(Y.cell? (aD g5 0)=some (nI e.from')/\Y.cell? (aD g5 1)=some (nI e.to')/\Y.cell? (aD g5 2)=some (nI e.op)/\Y.cell? (aD g5 3)=some (nI e.place)/\Y.cell? (aD g5 4)=some (.bool e.sense)/\Y.cell? (aD g5 5)=some (.bool e.loop)/\g5<Y.heap.size)):=fun Y hY=>by have hr:=(HSV.o.step hY).row;obtain ⟨q9,q10,q11,q12,q13,q14,q15,q16,q17,_,_⟩:=HC.o;obtain ⟨b0,b1,b2,b3,b4,b5,b6⟩:=row6 (Ok.row' hY HR6.o);obtain ⟨a0,a1,_,a3,a4,a5,a6⟩:=HM.o Y (HKW.o.step hY);exact ⟨⟨(cell_of_row _ _ 9 _ _ _ hr).trans (by rw [<-q9];rfl),(cell_of_row _ _ 10 _ _ _ hr).trans (by rw [<-q10];rfl),(cell_of_row _ _ 11 _ _ _ hr).trans (by rw [<-q11];rfl),(cell_of_row _ _ 12 _ _ _ hr).trans (by rw [<-q12];rfl),(cell_of_row _ _ 13 _ _ _ hr).trans (by rw [<-q13];rfl),(cell_of_row _ _ 14 _ _ _ hr).trans (by rw [<-q14];rfl),(cell_of_row _ _ 15 _ _ _ hr).trans (by rw [<-q15];rfl),(cell_of_row _ _ 16 _ _ _ hr).trans (by rw [<-q16];rfl),(cell_of_row _ _ 17 _ _ _ hr).trans (by rw [<-q17];rfl),za2 hr⟩,⟨a0,a3,a4,a5,a6⟩,⟨b0,b1,b2,b3,b4,b5,b6⟩⟩
 have HFN:Hi (fr<vn2):=hfn2;clear hkt hktN hst HM;have S0:Ok V2 V2.drew:=Below.drew (Ok.refl V2);refine yG0 (fun Y=>Ok V2 Y) 18 kR ?_;obtain ⟨D,hD⟩:=qq (V2.drew);rw [<-hD] at S0 ⊢;clear hD;refine yF0 (i:=0) (v:=pA F.gf 0) rfl kR kR kR kR kR (fun _ _ _ h=>h) S0 (Or.inl ⟨by rfl,?_⟩) ?_
 ·intro w' s0;clear s0;go_simp;try with_reducible rfl
 simp only [pu];refine yF0 (i:=1) (v:=pA g5 1) rfl kR kR kR kR kR (fun _ _ _ h=>h) S0 (Or.inl ⟨by rfl,?_⟩) ?_
 ·intro w' s0;obtain ⟨⟨z9,z10,z11,z12,z13,z14,z15,z16,z17,z18⟩,⟨z19,z20,z21,z22,z23⟩,⟨z0,z1,z2,z3,z4,z5,z6⟩⟩:=HCL.o w' s0;clear s0;go_simp;try with_reducible rfl
 simp only [pu];refine yF0 (i:=2) (v:=nI e.to') rfl kR kR kR kR kR (fun _ _ _ h=>h) S0 (Or.inl ⟨by rfl,?_⟩) ?_
 ·intro w' s0;obtain ⟨⟨z9,z10,z11,z12,z13,z14,z15,z16,z17,z18⟩,⟨z19,z20,z21,z22,z23⟩,⟨z0,z1,z2,z3,z4,z5,z6⟩⟩:=HCL.o w' s0;clear s0;go_simp;try with_reducible rfl
 simp only [pu];refine yF0 (i:=3) (v:=.agg #[nI e.from',nI e.to',nI e.op,nI e.place,.bool e.sense,.bool e.loop]) rfl kR kR kR kR kR (fun _ _ _ h=>h) S0 (Or.inl ⟨by rfl,?_⟩) ?_
 ·intro w' s0;obtain ⟨⟨z9,z10,z11,z12,z13,z14,z15,z16,z17,z18⟩,⟨z19,z20,z21,z22,z23⟩,⟨z0,z1,z2,z3,z4,z5,z6⟩⟩:=HCL.o w' s0;clear s0;go_simp;try with_reducible rfl
 simp only [pu];refine yF0 (i:=4) (v:=nI (k:Nat)) rfl kR kR kR kR kR (fun _ _ _ h=>h) S0 (Or.inl ⟨by rfl,?_⟩) ?_
 ·intro w' s0;clear s0;go_simp;try with_reducible rfl
 simp only [pu];refine yF0 (i:=5) (v:=pA F.gf 0) rfl kR kR kR kR kR (fun _ _ _ h=>h) S0 (Or.inl ⟨by rfl,?_⟩) ?_
 ·intro w' s0;clear s0;go_simp;try with_reducible rfl
 simp only [pu];refine yF0 (i:=6) (v:=pA F.gf 0) rfl kR kR kR kR kR (fun _ _ _ h=>h) S0 (Or.inl ⟨by rfl,?_⟩) ?_
 ·intro w' s0;obtain ⟨⟨z9,z10,z11,z12,z13,z14,z15,z16,z17,z18⟩,⟨z19,z20,z21,z22,z23⟩,⟨z0,z1,z2,z3,z4,z5,z6⟩⟩:=HCL.o w' s0;clear s0;go_simp;try with_reducible rfl
 simp only [pu];refine yF0 (i:=7) (v:=pA F.gf 9) rfl kR kR kR kR kR (fun _ _ _ h=>h) S0 (Or.inl ⟨by rfl,?_⟩) ?_
 ·intro w' s0;obtain ⟨⟨z9,z10,z11,z12,z13,z14,z15,z16,z17,z18⟩,⟨z19,z20,z21,z22,z23⟩,⟨z0,z1,z2,z3,z4,z5,z6⟩⟩:=HCL.o w' s0;clear s0;go_simp;try with_reducible rfl
 simp only [pu];refine yF0 (i:=8) (v:=.agg #[nI (c 0),nI (c 1),nI (c 2),nI (c 3),nI (c 4),nI (c 5),.slice tz tn tc,nI (c 7),nI (c 8)]) rfl kR kR kR kR kR (fun _ _ _ h=>h) S0 (Or.inl ⟨by rfl,?_⟩) ?_
 ·intro w' s0;obtain ⟨⟨z9,z10,z11,z12,z13,z14,z15,z16,z17,z18⟩,⟨z19,z20,z21,z22,z23⟩,⟨z0,z1,z2,z3,z4,z5,z6⟩⟩:=HCL.o w' s0;clear s0;go_simp;try with_reducible rfl
 simp only [pu];refine yF0 (i:=9) (v:=pA F.gf 0) rfl kR kR kR kR kR (fun _ _ _ h=>h) S0 (Or.inl ⟨by rfl,?_⟩) ?_
 ·intro w' s0;clear s0;go_simp;try with_reducible rfl
 simp only [pu];refine yF0 (i:=10) (v:=pA F.gf 0) rfl kR kR kR kR kR (fun _ _ _ h=>h) S0 (Or.inl ⟨by rfl,?_⟩) ?_
 ·intro w' s0;obtain ⟨⟨z9,z10,z11,z12,z13,z14,z15,z16,z17,z18⟩,⟨z19,z20,z21,z22,z23⟩,⟨z0,z1,z2,z3,z4,z5,z6⟩⟩:=HCL.o w' s0;clear s0;go_simp;try with_reducible rfl
 simp only [pu];refine yF0 (i:=11) (v:=pA F.gf 19) rfl kR kR kR kR kR (fun _ _ _ h=>h) S0 (Or.inl ⟨by rfl,?_⟩) ?_
 ·intro w' s0;obtain ⟨⟨z9,z10,z11,z12,z13,z14,z15,z16,z17,z18⟩,⟨z19,z20,z21,z22,z23⟩,⟨z0,z1,z2,z3,z4,z5,z6⟩⟩:=HCL.o w' s0;clear s0;go_simp;try with_reducible rfl
 simp only [pu];refine yF0 (i:=12) (v:=.slice (sA vb 0) vn2 vc2) rfl kR kR kR kR kR (fun _ _ _ h=>h) S0 (Or.inl ⟨by rfl,?_⟩) ?_
 ·intro w' s0;obtain ⟨⟨z9,z10,z11,z12,z13,z14,z15,z16,z17,z18⟩,⟨z19,z20,z21,z22,z23⟩,⟨z0,z1,z2,z3,z4,z5,z6⟩⟩:=HCL.o w' s0;clear s0;go_simp;try with_reducible rfl
 simp only [pu];refine yF0 (i:=13) (v:=nI (fr:Nat)) rfl kR kR kR kR kR (fun _ _ _ h=>h) S0 (Or.inl ⟨by rfl,?_⟩) ?_
 ·intro w' s0;clear s0;go_simp;try with_reducible rfl
 simp only [pu];refine yF0 (i:=14) (v:=.pointer (some ⟨vb,fr*4,none⟩)) rfl kR kR kR kR kR (fun _ _ _ h=>h) S0 (Or.inl ⟨by rfl,?_⟩) ?_
 ·intro w' s0;have u7:(0:Int)<=(fr:Int):=oM;have u8:¬((vn2:Int)<=(fr:Int)):=(by have:=HFN.o;omega);have u9:(fr:Int)<(vn2:Int):=oM;clear s0;go_simp;try with_reducible rfl
 simp only [pu];refine yF0 (i:=15) (v:=.pointer (some ⟨vb,fr*4+1,none⟩)) rfl kR kR kR kR kR (fun _ _ _ h=>h) S0 (Or.inl ⟨by rfl,?_⟩) ?_
 ·intro w' s0;clear s0;go_simp;try with_reducible rfl
 simp only [pu];refine yF0 (i:=16) (v:=.agg #[.bool tb,.slice xo xn xc,.slice yo yn yc]) rfl kR kR kR kR kR (fun _ _ _ h=>h) S0 (Or.inl ⟨by rfl,?_⟩) ?_
 ·intro w' s0;obtain ⟨⟨z9,z10,z11,z12,z13,z14,z15,z16,z17,z18⟩,⟨z19,z20,z21,z22,z23⟩,⟨z0,z1,z2,z3,z4,z5,z6⟩⟩:=HCL.o w' s0;clear s0;go_simp;try with_reducible rfl
 simp only [pu];refine yF4 (i:=17) kR rfl (fun K hK=>?_);go_simp;refine (HBE.o D S0).mono ?_;rintro e1 D1 ⟨h1,l1,rfl,hto,hk1⟩;have S1:Ok V2 D1:=S0.step hk1;obtain ⟨ho1,hc1,rfl⟩:=za0 hto.hist;obtain ⟨lo1,lc1,rfl⟩:=za0 hto.loops;have HT1:Hi (TokOwn D1 F.B (.slice ho1 st.2.1.length hc1) (.slice lo1 st.2.2.length lc1) st):=hto.base (by have h1:=HSV.o.le;have h2:=S0.le;omega);refine hK.out _ _ (fun _=>S1) ?_;clear hK K hto hk1 S0 HBE
 try simp only [pu]
 refine yF4 (i:=18) kR rfl (fun K hK=>?_);go_simp;refine (HVX.o D1 _ _ S1 HT1.o).mono ?_;rintro e2 D2 hv;unfold QtIs at hv;have HRD:Hi (D1.heap[g5]?=_):=Ok.row' S1 HR6.o
 have HNG:Hi (g5≠F.gf/\g5≠F.ga/\g5≠F.gn/\(Value.slice (sA vb 0) vn2 vc2).ownBlock≠some g5):=by have h0:=HG5.o;have h1:=HF.o.fB;have h2:=HF.o.aB;have h3:=HF.o.nB;have h4:=HS2.o.le;exact ⟨by omega,by omega,by omega,zb6 HVV.o HR6.o dC⟩
 cases hvt:p.vert vs2 (kt:Int) st with
 | none =>
  rw [hvt] at hv;obtain ⟨rfl,hS3,hVK⟩:=hv;have HR3:Hi (D2.heap[g5]?=_):=hVK.far g5 _ HRD.o HNG.o.1 HNG.o.2.1 HNG.o.2.2.1 HNG.o.2.2.2;have HO3:Hi (Ok w0 D2):=hS3.ok
  have HF2:Hi (p.find f=.inl (kt:Int)):=by unfold Hi;have h1:=HNX.o;rw [hvt] at h1;rw [<-HVE.o.2];obtain ⟨g,hg⟩:∃ g,f-fr=g+1:=⟨f-fr-1,by have h2:=HLN.o;have h3:=HN.o;have h4:=HVN.o;omega⟩;rw [hg];unfold Pl.verts;rw [HV.o];simp only [h1]
  refine hK.out _ _ (fun h=>absurd h dC) ?_;clear hK K hS3 hVK hvt
  try simp only [pu]
  refine yF1 _ _ _ _ (of_decide_eq_true kR) ?_;refine wpAnyH_take (i:=19) (v:=.tuple #[nI 0,.bool false]) rfl kR kR kR (fun _ _ _ h=>h) (Or.inl ⟨by rfl,?_⟩) trivial ?_
  ·intro w' s0;clear s0;go_simp;try with_reducible rfl
  simp only [pu];refine wpAnyH_take (i:=20) (v:=nI 0) rfl kR kR kR (fun _ _ _ h=>h) (Or.inl ⟨by rfl,?_⟩) trivial ?_
  ·intro w' s0;clear s0;go_simp;try with_reducible rfl
  simp only [pu];refine wpAnyH_take (i:=21) (v:=.bool false) rfl kR kR kR (fun _ _ _ h=>h) (Or.inl ⟨by rfl,?_⟩) trivial ?_
  ·intro w' s0;clear s0;go_simp;try with_reducible rfl
  simp only [pu];refine wpAnyH_take (i:=22) (v:=nI 0) rfl kR kR kR (fun _ _ _ h=>h) (Or.inl ⟨by rfl,?_⟩) trivial ?_
  ·intro w' s0;clear s0;go_simp;try with_reducible rfl
  simp only [pu];refine wpAnyH_take (i:=23) (v:=.bool false) rfl kR kR kR (fun _ _ _ h=>h) (Or.inl ⟨by rfl,?_⟩) trivial ?_
  ·intro w' s0;clear s0;go_simp;try with_reducible rfl
  simp only [pu];refine wpAnyH_done kR ?_ _;obtain ⟨y0,y1,y2,y3,y4,y5,ly⟩:=row6 HR3.o;go_wp2_with fail;go_ret;unfold QdIs;rw [HF2.o];exact ⟨by rw [<-HKT.o.1];rfl,HO3.o⟩
 | some r =>
  rw [hvt] at hv;obtain ⟨rfl,vv3,hS3,hJ3,hVK⟩:=hv;have HNX2:Hi (p.edges fr v.2 ((outE p.es v.1).drop ((outP p.es v.1 k).length+1)) r.1 (ls2++[(fr,r.2,k)])=p.edges fr v.2 (outE p.es v.1) vs ls):=by have h1:=HNX.o;rw [hvt] at h1;exact h1.symm
  have HWS3:Hi (∃ ws,r.1=vs++ws):=by obtain ⟨ws,h3⟩:=HWS.o.1;obtain ⟨l,h4,_⟩:=(zo5 HJ2.o.vi (.inr ⟨e,mG_ HED.o,HKT.o.1⟩) hvt).2.1;exact ⟨ws++l,by rw [h4,h3,List.append_assoc]⟩
  obtain ⟨r1,r2⟩:=r;simp only at HNX2 HWS3 hS3 hJ3;have HS3:=hid hS3;have HJ3:=hid hJ3;dsimp only;refine hK.out _ _ (fun h=>absurd h dC) ?_;clear hK K hS3 hJ3 hVK hvt
  try simp only [pu]
  refine yF1 _ _ _ _ (of_decide_eq_true kR) ?_;refine wpAnyH_take (i:=19) (v:=.tuple #[nI (r2:Nat),.bool true]) rfl kR kR kR (fun _ _ _ h=>h) (Or.inl ⟨by rfl,?_⟩) trivial ?_
  ·intro w' s0;clear s0;go_simp;try with_reducible rfl
  simp only [pu];refine wpAnyH_take (i:=20) (v:=nI (r2:Nat)) rfl kR kR kR (fun _ _ _ h=>h) (Or.inl ⟨by rfl,?_⟩) trivial ?_
  ·intro w' s0;clear s0;go_simp;try with_reducible rfl
  simp only [pu];refine wpAnyH_take (i:=21) (v:=.bool true) rfl kR kR kR (fun _ _ _ h=>h) (Or.inl ⟨by rfl,?_⟩) trivial ?_
  ·intro w' s0;clear s0;go_simp;try with_reducible rfl
  simp only [pu];refine wpAnyH_take (i:=22) (v:=nI (r2:Nat)) rfl kR kR kR (fun _ _ _ h=>h) (Or.inl ⟨by rfl,?_⟩) trivial ?_
  ·intro w' s0;clear s0;go_simp;try with_reducible rfl
  simp only [pu];refine wpAnyH_take (i:=23) (v:=.bool true) rfl kR kR kR (fun _ _ _ h=>h) (Or.inl ⟨by rfl,?_⟩) trivial ?_
  ·intro w' s0;clear s0;go_simp;try with_reducible rfl
  simp only [pu];refine wpAnyH_done kR ?_ _;obtain ⟨_,_,d19,d20,_,_,dfz,lgf⟩:=HS3.o.cells HF.o;have df:=dfz 20
  have HLB:Hi (ln2<=60000000):=by
   have h1:=HFI.o.len;have h2:=HWS.o.2.2;have h3:=Nat.mul_le_mul (Nat.le_trans (Nat.le_of_lt hlt) (show vn<=10000 by have:=HVN.o;have:=HLN.o;omega)) HB.o.small.2.2;have h4:(outP p.es v.1 k).length<=p.es.length:=by obtain ⟨l,hl⟩:=zx0 (es:=p.es) (n:=v.1) k;have h5:=zr0 p.es v.1;rw [hl,List.length_append] at h5;omega
   have h6:=HB.o.small;have h7:=HVN2.o;unfold Hi;omega
  go_wp2_with (first | (at_builtin;refine ze4 rfl _ _ 41 73 3 24 _ rfl Tryz.underlying41 infLk (by rfl) (by decide) (by decide) F.B (.slice lo2 ln2 lc2) ln2 (lkL ls2) (by rfl) (World.ownsRow.alloc (by have h:=HS3.o.lo;rw [<-HVN2.o.2] at h;exact h) _) (.slice (sA D2.heap.size 0) 1 1) 1 [nI (fr:Nat),nI (r2:Nat),nI (k:Nat)] (by rfl) (SL.one D2 73 [nI (fr:Nat),nI (r2:Nat),nI (k:Nat)] rfl (by simp [Value.oneCell'])) (by have:=HLB.o;omega) (by have:=HS3.o.le;simp;omega) ?_;intro v9 w9 k1 k2;have HL9:=hid k1;have HG9:=hid k2;obtain ⟨vo9,vc9,rfl⟩:=za0 k1;have HF9:Hi (w9.heap[F.gf]?=some (.cells (F.row vv3 (.slice lo2 ln2 lc2)) 70 (0,0))):=(k2.block F.gf (by simp;omega) (fun e=>zf4 HS3.o.lo HF.o.fB e.symm)).trans (heap_past _ _ _ lgf HS3.o.row);clear k1 k2 d19 d20 dfz lgf df;have d20:w9.cell? (aD F.gf 20)=some (.slice lo2 ln2 lc2):=(cell_of_row _ _ 20 _ _ _ HF9.o).trans rfl;have df:w9.frozen? (aD F.gf 20)=false:=frozen_of_row _ _ _ _ _ HF9.o;have lgf:=za2 HF9.o) | fail)
  go_roundw
  case rel =>
   have HON:outP p.es v.1 (k+1)=outP p.es v.1 k++[(k,e)]:=by rw [zl7 HED.o,if_pos HFR.o]
   refine ⟨k+1,rfl,hkl,vv3,_,r1,ls2++[(fr,r2,k)],(HS3.o.step ((Ok.refl D2).alloc _)).link HF.o (l:=(fr,r2,k)) (by have h:=HL9.o;rw [HVN2.o.2] at h ⊢;exact h) HG9.o,HJ3.o,HWS3.o,?_,?_⟩
   ·rw [HON,List.length_append,List.length_singleton];exact HNX2.o
   rw [HON,List.length_append,List.length_append,List.length_singleton,List.length_singleton];have:=HWS.o.2.2;omega
  case measure=>simp only [intOf];omega
end
end Go.Proofs.YtihdgmiicfbbkaaGreatDoor
