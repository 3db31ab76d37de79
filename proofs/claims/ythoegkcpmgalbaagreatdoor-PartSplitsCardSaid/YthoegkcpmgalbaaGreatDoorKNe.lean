import Derived.Test.YthoegkcpmgalbaaGreatDoorKNd
set_option linter.all false
set_option maxRecDepth 100000
namespace Go.Proofs.YthoegkcpmgalbaaGreatDoor
open Go Go.RowKit Go.Maps
variable{a:Act}{i:Nat}{listed:Array Bool}{w:World}
variable {P:Program} {ops:Array Oper} {Q:Exit->Act->World->Prop} {md:Region.Mode} {S:World->Prop} {n:Nat}
def FT(P:Program)(md:Region.Mode)(ops:Array Oper)(Q:Exit->Act->World->Prop)(S:World->Prop)(n:Nat):Nat->Array Bool->Act->World->Prop
 | 0,listed,a,w=>Region.ready md ops listed=[]/\Q .normal a w
 | fuel+1,listed,a,w =>
  (Region.ready md ops listed=[]->Q .normal a w) /\
  ∀i∈Region.ready md ops listed,wpOp P ops Q i (λa' w'=>(i<n->S w')/\FT P md ops Q S n fuel (listed.setIfInBounds i true) a' w') a w
def yF6:∀(fuel:Nat) (listed:Array Bool) (a:Act) (w:World),FT P md ops Q S n fuel listed a w->wpAny P md ops Q fuel listed a w
 | 0,_,_,_,h=>h
 | fuel+1,_,_,_,h=>⟨h.1,λi D=>wpOp_mono (λo w' d=>yF6 fuel _ o w' d.2) (h.2 i D)⟩
def Clo(md:Region.Mode)(ops:Array Oper)(listed:Array Bool):Prop:=∀(j:Nat) (o:Oper),ops[j]?=some o->listed.getD j false=true->∀e∈o.after,Region.binds md e=true->listed.getD e.on false=true
def wt8(md:Region.Mode)(ops:Array Oper)(listed:Array Bool):Bool:=(List.range ops.size).all λj => !(listed.getD j false)||(match ops[j]? with | some o=>o.after.all λe => !(Region.binds md e)||listed.getD e.on false | none=>true)
def yH1(h:wt8 md ops listed=true):Clo md ops listed:=by intro j o D K e J I;have L:j<ops.size:=(cZ.1 D).1;have d:=iC.1 h j (dJ.2 L);rw[K,D]at d;simp only[Bool.not_true,dI]at d;have G:=(Array.all_eq_true'.1 d) e J;rw[I]at G;simpa using G
def wg7(md:Region.Mode)(ops:Array Oper):Nat->Nat->Nat->Bool
 | 0,_,_=>false
 | f+1,j,i=>match ops[j]? with
  | some o=>o.after.any λe=>Region.binds md e&&((e.on==i)||wg7 md ops f e.on i)
  | none=>false
def Clo.reach(h:Clo md ops listed):∀(f j i:Nat),wg7 md ops f j i=true->listed.getD j false=true->listed.getD i false=true
 | 0,_,_,hw,_=>by cases hw
 | f+1,j,i,hw,hl=>by
  unfold wg7 at hw
  split at hw
  ·rename_i o ho
   rw[gJ]at hw;obtain⟨e,G,D⟩:=hw;simp only[bM,cR,bZ]at D;have d:=h j o ho hl e G D.1;rcases D.2 with h3 | h3
   ·subst h3;exact d
   exact Clo.reach h f _ _ h3 d
  cases hw
def Clo.ready(h:Clo md ops listed){f j:Nat}(o:wg7 md ops f j i=true)(K:j∈Region.ready md ops listed):listed.getD i false=true:=by
 obtain⟨_,L,G,D⟩:=mem_ready.1 K
 cases f with
 | zero=>cases o
 | succ f =>
  unfold wg7 at o;rw[G]at o;simp only[gJ,bM,cR,bZ]at o;obtain⟨e,J,I⟩:=o;have d:=D e J I.1;rcases I.2 with h3 | h3
  ·subst h3;exact d
  exact h.reach f _ _ h3 d
def Clo.next(h:Clo md ops listed){j:Nat}(R:j∈Region.ready md ops listed):Clo md ops (listed.setIfInBounds j true):=by
 obtain⟨_,W,o,d⟩:=mem_ready.1 R
 have L:∀m,listed.getD m false=true->(listed.setIfInBounds j true).getD m false=true:=λm I=>by
  by_cases e:j=m
  ·subst e
   have:j<listed.size:=by
    rcases cC j listed.size with h1 | h1
    ·exact h1
    simp[cU h1]at I
   simp[this]
  rw[getD_set_ne false e];exact I
 intro k O D K e J G;by_cases c:j=k
 ·subst c
  rw[o]at D;cases D;exact L _ (d e J G)
 rw[getD_set_ne false c]at K;exact L _ (h k O D K e J G)
def yF8{oi:Oper}{v:Value}(hi:ops[i]?=some oi)(J:∀(j:Nat) (o:Oper) cs b,ops[j]?=some o->o.op≠.select cs b)
  (hw:∀j,n<=j->j<ops.size->j≠i->wg7 md ops ops.size j i=true)
  (hQ:∀c a w,Q (.panic c) (a.put oi.dst v) w->Q (.panic c) a w) :
  ∀(fuel:Nat) (listed:Array Bool) (a:Act) (w:World),Clo md ops listed ->
   (∀j O,ops[j]?=some O->j≠i->listed.getD j true=false->(∀e∈O.after,Region.binds md e=true->e.on≠i)->oi.apart ops O=true) ->
   i∈Region.ready md ops listed->YieldsIf P ops S oi v a->S w ->
   FT P md ops Q S n fuel (listed.setIfInBounds i true) (a.put oi.dst v) w->FT P md ops Q S n (fuel+1) listed a w:=by
 intro fuel
 induction fuel with
 | zero =>
  intro listed a w _ _ L hy Z H;refine⟨λh=>(by rw[h]at L;cases L),λj R=>?_⟩;by_cases d:j=i
  ·subst d;exact hy.wpOp hi Z ⟨λ_=>Z,H⟩
  have:=ready_mono R d;rw[H.1]at this;cases this
 | succ fuel ih =>
  intro listed a w a1 D L hy Z H;refine⟨λh=>(by rw[h]at L;cases L),λj R=>?_⟩;by_cases d:j=i
  ·subst d;exact hy.wpOp hi Z ⟨λ_=>Z,H⟩
  have h1:=H.2 j (ready_mono R d);obtain⟨K,O,G,a4⟩:=mem_ready.1 R
  have a2:¬listed.getD i false=true:=λh9=>by
   have I:=(mem_ready.1 L).1;rcases cC i listed.size with h' | h'
   ·simp[h']at I h9;rw[I]at h9;cases h9
   simp[cU h']at h9
  have a3:∀e∈O.after,Region.binds md e=true->e.on≠i:=λe he hb a6=>a2 (a6 ▸ a4 e he hb)
  have a8:j<n:=by
   rcases cC j n with h' | h'
   ·exact h'
   exact absurd (a1.ready (hw j h' (cZ.1 G).1 d) R) a2
  have h2:=wpOp_putIf G (D j O G d K a3) (λcs b=>J i oi cs b hi) (λcs b=>J j O cs b G) hQ hy h1
  have I:∀k Y,ops[k]?=some Y->k≠i->(listed.setIfInBounds j true).getD k true=false ->
    (∀e∈Y.after,Region.binds md e=true->e.on≠i)->oi.apart ops Y=true:=λk Y hk a5 X a7=>by
   refine D k Y hk a5 ?_ a7;by_cases W:j=k
   ·subst W;exact K
   rw[getD_set_ne true W]at X;exact X
  refine wpOp_mono (λa' w' h3=>⟨h3.2.1,ih (listed.setIfInBounds j true) a' w' (a1.next R) I (ready_mono L (eL d)) h3.1 (h3.2.1 a8) ?_⟩) h2;rw[hC _ _ d];exact h3.2.2
def yF0{oi:Oper}{v:Value}{fuel:Nat}(o:ops[i]?=some oi)
  (R:Region.noSelect ops=true) (K:Region.free md ops listed i=true) (W:(Region.ready md ops listed).contains i=true)
  (D:((List.range ops.size).all λj=>decide (j<n)||(j==i)||wg7 md ops ops.size j i)=true) (G:wt8 md ops listed=true)
  (L:∀c a w,Q (.panic c) (a.put oi.dst v) w->Q (.panic c) a w) (J:S w) (O:YieldsIf P ops S oi v a)
  (h:FT P md ops Q S n fuel (listed.setIfInBounds i true) (a.put oi.dst v) w):FT P md ops Q S n (fuel+1) listed a w :=
 yF8 o (Region.noSelect_spec R) (λj Y I X=>by
  have d:=iC.1 D j (dJ.2 I);simp only[cR,bV,bZ]at d;rcases d with (h5 | h5) | h5
  ·omega
  ·exact absurd h5 X
  exact h5) L fuel listed a w (yH1 G) (Region.free_spec o K) (by simpa using W) O J h
def yF4{o:Oper}{fuel:Nat}(I:Region.ready md ops listed=[i])(O:ops[i]?=some o)
  (h:∀d:Act->World->Prop,Shut (∀a w,(i<n->S w)->FT P md ops Q S n fuel (listed.setIfInBounds i true) a w->d a w)->if Region.wanted o (yielded ops a.tmps)=true then Oper.wp P o a w d Q else d (a.put o.dst undef) w) :
  FT P md ops Q S n (fuel+1) listed a w:=by
 refine⟨λD=>(by rw[I]at D;cases D),λj G=>?_⟩;rw[I,aT]at G;subst G;exact wpOp_step O (λd J=>h d (λa w L K=>J a w ⟨L,K⟩))
def yF1:∀(fuel:Nat) (listed:Array Bool) (a:Act) (w:World),(∀i,i<n->listed.getD i true=true)->wpAnyH P md ops Q (λ_=>True) fuel listed a w->FT P md ops Q S n fuel listed a w
 | 0,_,_,_,_,h=>h
 | fuel+1,listed,a,w,hl,h=>⟨h.1,λi o=>wpOp_mono (λI w' G=>⟨λd=>(by
   have:=(mem_ready.1 o).1;rw[hl i d]at this
   cases this),yF1 fuel _ I w' (λk D=>by
   by_cases e:i=k
   ·subst e
    have:=(mem_ready.1 o).1;rw[hl i D]at this;cases this
   rw[getD_set_ne true e];exact hl k D) G.2⟩) (h.2 i o)⟩
def yG0{id:Nat}(S:World->Prop)(n:Nat)(d:P.follows .mixedOrders=true)
  (h:FT P .any ops Q S n ops.size (Array.replicate ops.size false) a w.drew):(Code.region id ops true).wp P Q a w :=
 wp_region_any d (yF6 _ _ _ _ h)
def QC(F:FA)(p:Pl)(c:Nat->Int)(tz:Option Addr)(tn tc:Nat):Prop:=F.a 9=nI (c 0)/\F.a 10=nI (c 1)/\F.a 11=nI (c 2)/\F.a 12=nI (c 3)/\F.a 13=nI (c 4)/\F.a 14=nI (c 5)/\F.a 15=.slice tz tn tc/\F.a 16=nI (c 7)/\F.a 17=nI (c 8)/\p.H=c 0/\p.U=c 1
def wo0(w0:World)(F:FA)(p:Pl)(f:Nat)(e:Ending)(w':World):Prop :=
 match p.find f with
 | .inl n=>e=.returned (nI n)/\Ok w0 w'
 | .inr r=>e=.returned (nI (-1))/\∃vv lv,QS w0 F w' vv lv r.1 r.1 r.1 r.2
def QO(w0:World)(F:FA)(p:Pl)(f fr:Nat)(wr:World):Prop:=∃(vv lv:Value) (vs:List Vx) (ls:List Lk),QS w0 F wr vv lv vs vs vs ls/\VJ p vs/\FI p fr vs ls/\fr<=f/\p.verts (f-fr) fr vs ls=p.find f
def QI(w0:World)(F:FA)(p:Pl)(fr k:Nat)(v:Vx)(vs:List Vx)(ls:List Lk)(wi:World):Prop:=∃(vv lv:Value) (vs2:List Vx) (ls2:List Lk),QS w0 F wi vv lv vs2 vs2 vs2 ls2/\VJ p vs2/\(∃ws,vs2=vs++ws)/\p.edges fr v.2 ((CD p.es v.1).drop (EZ p.es v.1 k).length) vs2 ls2=p.edges fr v.2 (CD p.es v.1) vs ls/\ls2.length=ls.length+(EZ p.es v.1 k).length
def VJ.nil(p:Pl):VJ p []:=⟨λv d=>(by cases d),λi v d=>(by simp at d),⟨List.nodup_nil,λn=>(by simp[many]),λv d=>(by cases d),λv d=>(by cases d)⟩⟩
set_option maxHeartbeats 16000000 in
def yG2{w0:World}{F:FA}{p:Pl}(N f:Nat)(c:Nat->Int)(tz:Option Addr)(tn tc:Nat)(w:World)(h:QS w0 F w (sZ) (sZ) [] [] [] [])(J:QOk w0 F p)(O:PB N p)(K:N*p.cap<f)(G:w0.ownsRow 0 98 6 (F.a 8) p.es.length (edL p.es))(L:QC F p c tz tn tc) :
  Calls Tryz.prog 17 #[pA F.gf 0] w λe w'=>wo0 w0 F p f e w':=by
 have HF:=hid J;have HB:=hid O;have HN:=hid K;have HC:=hid L;obtain⟨eo,ec,I⟩:=za0 G;rw[I]at G;obtain⟨em,d⟩:=qq (p.es.length);have f4:Hi (em=p.es.length):=d;have p3:Hi (F.a 8=.slice eo em ec):=by rw[d];exact I
 have HE:Hi (w0.ownsRow 0 98 6 (.slice eo em ec) em (edL p.es)):=by rw[d];exact G
 have D:Hi (Calls Tryz.prog 34 #[pA F.gf 0,nI ((0:Nat):Int),.agg #[.bool false,sZ,sZ]] w λe w'=>wj6 w0 F p (sZ) [] [] 0 FV w (sZ) e w'):=yF3 (k:=0) h J (VJ.nil p) oM (.inl rfl) FV _ _ ⟨World.ownsRow_nil _ _ _ _,World.ownsRow_nil _ _ _ _⟩ (λe=>by simp[FV]at e) ⟨by simp[FV],by simp[FV],by simp[FV],by simp[FV]⟩ (by simp);clear h J O K L G I d;go_enter Tryz.func17,Tryz.ntmps17;go_wp2_with fail;refine D.o.mono ?_;rintro e w1 hv;unfold wj6 at hv;rw[zU3 p HB.o.pos]at hv;obtain⟨rfl,p7,G,d,_⟩:=hv;have I:Hi (QO w0 F p f 0 w1):=⟨_,_,_,_,G,d,FI.start p HB.o.pos,zL_ _,rfl⟩;clear G d D;go_wp2_with fail;go_loopw [3] (λt3 wr=>∃G:Nat,t3=nI (G:Nat)/\Hi (QO w0 F p f G wr)) (λt3 _=>((f:Int)+1-intOf t3).toNat)
 case atStart=>exact⟨0,rfl,I⟩
 clear I;obtain⟨G,rfl,HR⟩:=hrel;obtain⟨vv,lv,vs,ls,J,W,d,D,L⟩:=HR.o;have HJ:=hid W;have k8:=hid d;have i1:Hi (G<=f/\p.verts (f-G) G vs ls=p.find f):=⟨D,L⟩;have d1:Hi (vs.length<=N*p.cap/\N*p.cap<=10000/\G<=vs.length):=⟨W.vi.len HB.o.win,by have h1:=eI HB.o.small.1 HB.o.small.2.1;omega,d.le⟩;obtain⟨tl,X,O,K⟩:=J.vo;obtain⟨vo,vc,rfl⟩:=za0 O;obtain⟨vn,I⟩:=qq (vs.length);have c9:Hi (vn=vs.length):=I;rw[<-I]at J;have Y:=hid J;obtain⟨j0,i0,d6,j2,i8,i9,j3,R⟩:=J.cells HF.o;clear J W d D L X O K I HR;have q2:IntKind.i64.wrap ((G:Int)+1)=((G+1:Nat):Int):=zb3 (oH d1.o);by_cases j6:G<vn;rotate_left
 ·have d:¬(G:Int)<(vn:Int):=oM
  have J:Hi (p.find f=.inr (vs,ls)):=by
   unfold Hi;rw[<-i1.o.2];have I:vs[G]?=none:=aS (oH c9.o)
   cases f-G with
   | zero=>rfl
   | succ g=>unfold Pl.verts;rw[I]
  go_wp2_with fail;go_ret;unfold wo0;rw[J.o];exact⟨rfl,_,_,Y.o⟩
 have d:(G:Int)<(vn:Int):=za5 j6;obtain⟨v,hv⟩:∃v,vs[G]?=some v:=⟨_,gG_ (oH c9.o)⟩;have HV:=hid hv;have g9:Hi (CG v.2/\TkB G v.2):=⟨HJ.o.tok v (mG_ hv),HJ.o.bnd G v hv⟩;have I:Hi (QI w0 F p G 0 v vs ls wr):=⟨_,_,vs,ls,Y.o,HJ.o,⟨[],by simp⟩,by rw[zs9];rfl,by rw[zs9];rfl⟩;clear hv;go_wp2_with fail;clear j0 i0 d6 j2 i8 i9 j3 R d;go_loopw [4] (λt4 wi=>∃k:Nat,t4=nI (k:Nat)/\k<=em/\Hi (QI w0 F p G k v vs ls wi)) (λt4 _=>((em:Int)-intOf t4).toNat)
 case atStart=>exact⟨0,rfl,zL_ _,I⟩
 clear I Y;obtain⟨k,rfl,p8,HR⟩:=hrel;obtain⟨p5,p9,I,J,W,k5,g7,d4,k0⟩:=HR.o;have f0:=hid k5;have c2:Hi ((∃ws,I=vs++ws)/\p.edges G v.2 ((CD p.es v.1).drop (EZ p.es v.1 k).length) I J=p.edges G v.2 (CD p.es v.1) vs ls/\J.length=ls.length+(EZ p.es v.1 k).length):=⟨g7,d4,k0⟩;obtain⟨f7,g0,rfl⟩:=za0 W.lo;obtain⟨n7,g4,d,f2⟩:=W.vo;obtain⟨q1,d8,rfl⟩:=za0 d;obtain⟨O,Z⟩:=qq (I.length);obtain⟨d2,f3⟩:=qq (J.length);have d9:Hi (O=I.length/\d2=J.length):=⟨Z,f3⟩;rw[<-Z,<-f3]at W;rw[<-Z]at d;have d7:=hid W;have j8:=hid d
 have Y:I[G]?=some v:=by obtain⟨ws,e⟩:=g7;rw[e,aQ (aE.1 HV.o).1];exact HV.o
 have j9:G<O:=by have h:=(aE.1 Y).1;omega
 obtain⟨x,hx⟩:∃x,n7[G]?=some x:=⟨_,aJ (by rw[g4];omega)⟩;have X:=f2 G v x Y hx;obtain⟨xo,xc,k3⟩:=za0 X.hist;obtain⟨yo,yc,l6⟩:=za0 X.loops;obtain⟨x1,x2⟩:=x;simp only at k3 l6;subst k3 l6;obtain⟨xn,g6⟩:=qq (v.2.2.1.length);obtain⟨yn,j4⟩:=qq (v.2.2.2.length);obtain⟨tb,g8⟩:=qq (v.2.1);have m8:Hi (tb=v.2.1):=g8;obtain⟨L,cap,e1,_⟩:=d.form oM
 injection e1 with e1 e6 e7
 subst e1;clear e6 e7;obtain⟨x0,x1,x2,x3⟩:=zA2 Y hx;have m0:=d.cells (g:=L) rfl _ _ x0;have m1:=d.cells (g:=L) rfl _ _ x1;have m2:=d.cells (g:=L) rfl _ _ x2;have m3:=d.cells (g:=L) rfl _ _ x3;rw[zb7,aL]at m0 m1 m2 m3;rw[<-g8]at m1;rw[<-g6]at m2;rw[<-j4]at m3;rw[<-g6,<-j4]at X;have m9:=hid X;have K:=(d.lt L rfl).2;obtain⟨j0,i0,d6,j2,i8,i9,j3,R⟩:=W.cells HF.o;have c8:wr.cell? (aD F.gf 8)=some (.slice eo em ec):=(cell_of_row _ _ 8 _ _ _ W.row).trans (by rw[<-p3.o];rfl);clear W k5 g7 d4 k0 g4 f2 hx X g6 j4 g8 x0 x1 x2 x3 HR Z f3 d Y;by_cases i2:k<em;rotate_left
 ·have k7:¬(k:Int)<(em:Int):=oM
  have d:Hi (p.edges G v.2 (CD p.es v.1) vs ls=.inr (I,J)):=by unfold Hi;rw[<-c2.o.2.1,show k=p.es.length by have:=f4.o;omega,zP8,cP (aK _)];rfl
  have Y:Hi (QO w0 F p f (G+1) wr):=by
   have W:f-G=(f-(G+1))+1:=by have h2:=d1.o;have h3:=HN.o;have h4:=c9.o;omega
   refine⟨_,_,I,J,d7.o,f0.o,k8.o.next HV.o d.o,by have h2:=d1.o;have h3:=HN.o;have h4:=c9.o;omega,?_⟩;rw[<-i1.o.2,W]
   conv=>rhs;unfold Pl.verts
   rw[HV.o];simp only[d.o]
  go_wp2_with fail;go_roundw
  case rel=>exact⟨G+1,rfl,Y⟩
  case measure=>simp only[intOf];have h2:=d1.o;have h3:=HN.o;omega
 have k7:(k:Int)<(em:Int):=za5 i2;have kw:IntKind.i64.wrap ((k:Int)+1)=((k+1:Nat):Int):=zb3 (by have h1:=HB.o.small;have:=f4.o;omega);obtain⟨e,d4⟩:∃e,p.es[k]?=some e:=⟨_,gG_ (oH f4.o)⟩;have d0:=hid d4;have W:=za1 HE.o d7.o.ok;obtain⟨eb,cap,e1,_⟩:=W.form oM
 injection e1 with e1 e6 e7
 subst e1;clear e6 e7
 have d:∀j u,(edV e)[j]?=some u->wr.cell? ⟨eb,k*6+j,none⟩=some u:=λj u hj=>by have h1:=W.cells (g:=eb) rfl (k*6+j) u (zp6 d4 j u hj);rw[zb7,aL]at h1;exact h1
 have r0:wr.cell? ⟨eb,k*6,none⟩=some (nI e.from'):=d 0 _ rfl;have r1:wr.cell? ⟨eb,k*6+1,none⟩=some (nI e.to'):=d 1 _ rfl;have r2:wr.cell? ⟨eb,k*6+2,none⟩=some (nI e.op):=d 2 _ rfl;have r3:wr.cell? ⟨eb,k*6+3,none⟩=some (nI e.place):=d 3 _ rfl;have r4:wr.cell? ⟨eb,k*6+4,none⟩=some (.bool e.sense):=d 4 _ rfl;have r5:wr.cell? ⟨eb,k*6+5,none⟩=some (.bool e.loop):=d 5 _ rfl;have Z:=(W.lt eb rfl).2;clear d W d4
 go_upto_region 9 with (fail)
 obtain⟨V,W⟩:=qq (wr.alloc (Obj.cells #[nI e.from',nI e.to',nI e.op,nI e.place,.bool e.sense,.bool e.loop] 98));obtain⟨g5,d⟩:=qq (wr.heap.size);rw[<-W,<-d];have i3:Hi (Ok wr V):=by rw[W];exact(Ok.refl wr).alloc _
 have l2:Hi (V.heap[g5]?=some (.cells #[nI e.from',nI e.to',nI e.op,nI e.place,.bool e.sense,.bool e.loop] 98 (0,0))):=by rw[W,d];exact za3 _ _
 have n0:Hi (g5=wr.heap.size):=d;have HM:Hi (∀Y,Ok wr Y->Y.cell? (aD F.gf 19)=some (.slice (sA L 0) O d8)/\F.gf<Y.heap.size/\Y.cell? ⟨L,G*4,none⟩=some (nI v.1)/\Y.cell? ⟨L,G*4+1,none⟩=some (.bool tb)/\Y.cell? ⟨L,G*4+2,none⟩=some (.slice xo xn xc)/\Y.cell? ⟨L,G*4+3,none⟩=some (.slice yo yn yc)/\L<Y.heap.size):=λY hY=>⟨hY.cell (p:=⟨F.gf,19,none⟩) R d6,lL_ R hY.le,hY.cell (p:=⟨L,G*4,none⟩) K m0,hY.cell (p:=⟨L,G*4+1,none⟩) K m1,hY.cell (p:=⟨L,G*4+2,none⟩) K m2,hY.cell (p:=⟨L,G*4+3,none⟩) K m3,lL_ K hY.le⟩;clear W d r0 r1 r2 r3 r4 r5 Z c8 j0 i0 d6 j2 i8 i9 j3 R m0 m1 m2 m3 K;obtain⟨d6,R,m0,m1,m2,m3,K⟩:=HM.o V i3.o;obtain⟨y0,y1,y2,y3,y4,y5,ly⟩:=CY l2.o;have p1:(0:Int)<=(G:Int):=oM;have Z:(G:Int)<(O:Int):=oM;have o3:¬((O:Int)<=(G:Int)):=oM;by_cases D:e.from'=v.1;rotate_left
 ·have d:(e.from'==v.1)=false:=by rw[aF];exact D
  have f1:Hi (EZ p.es v.1 (k+1)=EZ p.es v.1 k):=by unfold Hi;rw[zl7 d0.o,aC D,bD]
  have W:Hi (∀Y,Ok V Y->QI w0 F p G (k+1) v vs ls Y):=λY hY=>⟨_,_,I,J,d7.o.step (i3.o.step hY),f0.o,c2.o.1,by rw[f1.o];exact c2.o.2.1,by rw[f1.o];exact c2.o.2.2⟩;clear D;go_quiet (fail);go_wp2_with fail;go_roundw
  case rel=>exact⟨k+1,rfl,i2,W.o _ ((Ok.refl V).draws _)⟩
  case measure=>simp only[intOf];omega
 have d:(e.from'==v.1)=true:=by rw[bZ];exact D
 have j5:=hid D;clear D;go_quiet (fail)
 go_upto_region 10 with (fail)
 clear d6 R m0 m1 m2 m3 K y0 y1 y2 y3 y4 y5 ly p1 Z o3 d;obtain⟨V2,d⟩:=qq (V.drewN nq);rw[<-d];have g2:Hi (Ok V V2):=by rw[d];exact(Ok.refl V).draws _
 clear d;have f6:=hid (i3.o.step g2.o);have i4:Hi (V2.heap[g5]?=_):=Ok.row' g2.o l2.o;have i6:=hid (d7.o.step f6.o);have m6:=hid (m9.o.ok f6.o);have n8:=hid (za1 j8.o f6.o);obtain⟨kt,W,D⟩:∃kt:Nat,e.to'=(kt:Int)/\kt<N:=⟨e.to'.toNat,oH (HB.o.win.2 e (mG_ d0.o)),oH (HB.o.win.2 e (mG_ d0.o))⟩;have d3:Hi (e.to'=(kt:Int)/\kt<N):=⟨W,D⟩;obtain⟨st,K⟩:=qq (AM p.H p.U e k v.2);have k4:=hid K
 have i5:Hi (CG st/\TkB I.length st/\I.length<=100000):=by
  have h1:=HB.o.frm e (mG_ d0.o);have h2:=HB.o.small;obtain⟨ws,h3⟩:=c2.o.1;have h4:vs.length<=I.length:=by rw[h3,aA];omega
  have h5:=f0.o.vi.len HB.o.win;have h6:=d1.o;have h7:=c9.o;have h8:=f4.o;unfold Hi;rw[K];exact⟨CG.step g9.o.1,(TkB.step g9.o.2 (by unfold I64;omega) (by unfold I64;omega) HB.o.unr).up oM,oM⟩
 have j7:Hi (∀Y,Ok V2 Y->Calls Tryz.prog 35 #[.agg #[nI e.from',nI e.to',nI e.op,nI e.place,.bool e.sense,.bool e.loop],nI (k:Nat),.agg #[nI (c 0),nI (c 1),nI (c 2),nI (c 3),nI (c 4),nI (c 5),.slice tz tn tc,nI (c 7),nI (c 8)],.agg #[.bool tb,.slice xo xn xc,.slice yo yn yc]] Y λex w'=>∃l7 k6,ex=.returned (.agg #[.bool st.1,l7,k6])/\AD w' Y.heap.size l7 k6 st/\Ok Y w'):=λY hY=>by obtain⟨_,_,_,_,_,_,_,_,_,qH,d⟩:=HC.o;have h8:=f4.o;have h9:=d1.o;have Z:=c9.o;rw[m8.o,k4.o,qH,d];exact yH5 e k c tz tn tc _ _ v.2 Y (m6.o.ok hY).is (TkB.up g9.o.2 (M':=100000) oM).w (by have h2:=HB.o.small;omega) (by rw[<-d];exact HB.o.unr.2)
 have o1:Hi (∀Y hv f5,Ok V2 Y->AD Y F.B hv f5 st->Calls Tryz.prog 34 #[pA F.gf 0,nI e.to',.agg #[.bool st.1,hv,f5]] Y λe' w'=>wj6 w0 F p (.slice f7 d2 g0) I J kt st Y (.slice (sA L 0) O d8) e' w'):=λY hv f5 hY ht=>by rw[d3.o.1];exact yF3 (k:=kt) (i6.o.step hY) HF.o f0.o (oK d3.o.2 HB.o.small.1) (.inr ⟨e,mG_ d0.o,d3.o.1⟩) st hv f5 ht i5.o.1 i5.o.2.1 i5.o.2.2
 have l3:Hi (p.edges G v.2 (CD p.es v.1) vs ls=match p.vert I (kt:Int) st with | none=>.inl (kt:Int) | some r=>p.edges G v.2 ((CD p.es v.1).drop ((EZ p.es v.1 k).length+1)) r.1 (J++[(G,r.2,k)])):=by unfold Hi;rw[<-c2.o.2.1,zU4 (yx9 d0.o j5.o),d3.o.1,k4.o];rfl
 have Z:Hi (∀Y,Ok V2 Y->(Y.cell? (aD F.gf 9)=some (nI (c 0))/\Y.cell? (aD F.gf 10)=some (nI (c 1))/\Y.cell? (aD F.gf 11)=some (nI (c 2))/\Y.cell? (aD F.gf 12)=some (nI (c 3))/\Y.cell? (aD F.gf 13)=some (nI (c 4))/\Y.cell? (aD F.gf 14)=some (nI (c 5))/\Y.cell? (aD F.gf 15)=some (.slice tz tn tc)/\Y.cell? (aD F.gf 16)=some (nI (c 7))/\Y.cell? (aD F.gf 17)=some (nI (c 8))/\F.gf<Y.heap.size)/\(Y.cell? (aD F.gf 19)=some (.slice (sA L 0) O d8)/\Y.cell? ⟨L,G*4+1,none⟩=some (.bool tb)/\Y.cell? ⟨L,G*4+2,none⟩=some (.slice xo xn xc)/\Y.cell? ⟨L,G*4+3,none⟩=some (.slice yo yn yc)/\L<Y.heap.size)/\(Y.cell? (aD g5 0)=some (nI e.from')/\Y.cell? (aD g5 1)=some (nI e.to')/\Y.cell? (aD g5 2)=some (nI e.op)/\Y.cell? (aD g5 3)=some (nI e.place)/\Y.cell? (aD g5 4)=some (.bool e.sense)/\Y.cell? (aD g5 5)=some (.bool e.loop)/\g5<Y.heap.size)):=λY hY=>by have d:=(i6.o.step hY).row;obtain⟨q9,n3,n1,l9,p4,n2,o9,o7,l8,_,_⟩:=HC.o;obtain⟨b0,b1,b2,b3,b4,b5,b6⟩:=CY (Ok.row' hY i4.o);obtain⟨a0,a1,_,a3,a4,a5,a6⟩:=HM.o Y (f6.o.step hY);exact⟨⟨(cell_of_row _ _ 9 _ _ _ d).trans (by rw[<-q9];rfl),(cell_of_row _ _ 10 _ _ _ d).trans (by rw[<-n3];rfl),(cell_of_row _ _ 11 _ _ _ d).trans (by rw[<-n1];rfl),(cell_of_row _ _ 12 _ _ _ d).trans (by rw[<-l9];rfl),(cell_of_row _ _ 13 _ _ _ d).trans (by rw[<-p4];rfl),(cell_of_row _ _ 14 _ _ _ d).trans (by rw[<-n2];rfl),(cell_of_row _ _ 15 _ _ _ d).trans (by rw[<-o9];rfl),(cell_of_row _ _ 16 _ _ _ d).trans (by rw[<-o7];rfl),(cell_of_row _ _ 17 _ _ _ d).trans (by rw[<-l8];rfl),za2 d⟩,⟨a0,a3,a4,a5,a6⟩,⟨b0,b1,b2,b3,b4,b5,b6⟩⟩
 have o2:=hid j9;clear W D K HM;have W:Ok V2 V2.drew:=Below.drew (Ok.refl V2);refine yG0 (λY=>Ok V2 Y) 18 kR ?_;obtain⟨D,d⟩:=qq (V2.drew);rw[<-d]at W ⊢;clear d;refine yF0 (i:=0) (v:=pA F.gf 0) rfl kR kR kR kR kR (λ_ _ _ h=>h) W (Or.inl ⟨by rfl,?_⟩) ?_
 ·intro w' d;clear d;go_simp;try with_reducible rfl
 simp only[pu];refine yF0 (i:=1) (v:=pA g5 1) rfl kR kR kR kR kR (λ_ _ _ h=>h) W (Or.inl ⟨by rfl,?_⟩) ?_
 ·intro w' d;obtain⟨⟨z9,b9,c5,a9,c3,c7,b8,b7,c4,c1⟩,⟨a8,c6,a7,c0,a2⟩,⟨z0,z1,z2,z3,z4,z5,z6⟩⟩:=Z.o w' d;clear d;go_simp;try with_reducible rfl
 simp only[pu];refine yF0 (i:=2) (v:=nI e.to') rfl kR kR kR kR kR (λ_ _ _ h=>h) W (Or.inl ⟨by rfl,?_⟩) ?_
 ·intro w' d;obtain⟨⟨z9,b9,c5,a9,c3,c7,b8,b7,c4,c1⟩,⟨a8,c6,a7,c0,a2⟩,⟨z0,z1,z2,z3,z4,z5,z6⟩⟩:=Z.o w' d;clear d;go_simp;try with_reducible rfl
 simp only[pu];refine yF0 (i:=3) (v:=.agg #[nI e.from',nI e.to',nI e.op,nI e.place,.bool e.sense,.bool e.loop]) rfl kR kR kR kR kR (λ_ _ _ h=>h) W (Or.inl ⟨by rfl,?_⟩) ?_
 ·intro w' d;obtain⟨⟨z9,b9,c5,a9,c3,c7,b8,b7,c4,c1⟩,⟨a8,c6,a7,c0,a2⟩,⟨z0,z1,z2,z3,z4,z5,z6⟩⟩:=Z.o w' d;clear d;go_simp;try with_reducible rfl
 simp only[pu];refine yF0 (i:=4) (v:=nI (k:Nat)) rfl kR kR kR kR kR (λ_ _ _ h=>h) W (Or.inl ⟨by rfl,?_⟩) ?_
 ·intro w' d;clear d;go_simp;try with_reducible rfl
 simp only[pu];refine yF0 (i:=5) (v:=pA F.gf 0) rfl kR kR kR kR kR (λ_ _ _ h=>h) W (Or.inl ⟨by rfl,?_⟩) ?_
 ·intro w' d;clear d;go_simp;try with_reducible rfl
 simp only[pu];refine yF0 (i:=6) (v:=pA F.gf 0) rfl kR kR kR kR kR (λ_ _ _ h=>h) W (Or.inl ⟨by rfl,?_⟩) ?_
 ·intro w' d;obtain⟨⟨z9,b9,c5,a9,c3,c7,b8,b7,c4,c1⟩,⟨a8,c6,a7,c0,a2⟩,⟨z0,z1,z2,z3,z4,z5,z6⟩⟩:=Z.o w' d;clear d;go_simp;try with_reducible rfl
 simp only[pu];refine yF0 (i:=7) (v:=pA F.gf 9) rfl kR kR kR kR kR (λ_ _ _ h=>h) W (Or.inl ⟨by rfl,?_⟩) ?_
 ·intro w' d;obtain⟨⟨z9,b9,c5,a9,c3,c7,b8,b7,c4,c1⟩,⟨a8,c6,a7,c0,a2⟩,⟨z0,z1,z2,z3,z4,z5,z6⟩⟩:=Z.o w' d;clear d;go_simp;try with_reducible rfl
 simp only[pu];refine yF0 (i:=8) (v:=.agg #[nI (c 0),nI (c 1),nI (c 2),nI (c 3),nI (c 4),nI (c 5),.slice tz tn tc,nI (c 7),nI (c 8)]) rfl kR kR kR kR kR (λ_ _ _ h=>h) W (Or.inl ⟨by rfl,?_⟩) ?_
 ·intro w' d;obtain⟨⟨z9,b9,c5,a9,c3,c7,b8,b7,c4,c1⟩,⟨a8,c6,a7,c0,a2⟩,⟨z0,z1,z2,z3,z4,z5,z6⟩⟩:=Z.o w' d;clear d;go_simp;try with_reducible rfl
 simp only[pu];refine yF0 (i:=9) (v:=pA F.gf 0) rfl kR kR kR kR kR (λ_ _ _ h=>h) W (Or.inl ⟨by rfl,?_⟩) ?_
 ·intro w' d;clear d;go_simp;try with_reducible rfl
 simp only[pu];refine yF0 (i:=10) (v:=pA F.gf 0) rfl kR kR kR kR kR (λ_ _ _ h=>h) W (Or.inl ⟨by rfl,?_⟩) ?_
 ·intro w' d;obtain⟨⟨z9,b9,c5,a9,c3,c7,b8,b7,c4,c1⟩,⟨a8,c6,a7,c0,a2⟩,⟨z0,z1,z2,z3,z4,z5,z6⟩⟩:=Z.o w' d;clear d;go_simp;try with_reducible rfl
 simp only[pu];refine yF0 (i:=11) (v:=pA F.gf 19) rfl kR kR kR kR kR (λ_ _ _ h=>h) W (Or.inl ⟨by rfl,?_⟩) ?_
 ·intro w' d;obtain⟨⟨z9,b9,c5,a9,c3,c7,b8,b7,c4,c1⟩,⟨a8,c6,a7,c0,a2⟩,⟨z0,z1,z2,z3,z4,z5,z6⟩⟩:=Z.o w' d;clear d;go_simp;try with_reducible rfl
 simp only[pu];refine yF0 (i:=12) (v:=.slice (sA L 0) O d8) rfl kR kR kR kR kR (λ_ _ _ h=>h) W (Or.inl ⟨by rfl,?_⟩) ?_
 ·intro w' d;obtain⟨⟨z9,b9,c5,a9,c3,c7,b8,b7,c4,c1⟩,⟨a8,c6,a7,c0,a2⟩,⟨z0,z1,z2,z3,z4,z5,z6⟩⟩:=Z.o w' d;clear d;go_simp;try with_reducible rfl
 simp only[pu];refine yF0 (i:=13) (v:=nI (G:Nat)) rfl kR kR kR kR kR (λ_ _ _ h=>h) W (Or.inl ⟨by rfl,?_⟩) ?_
 ·intro w' d;clear d;go_simp;try with_reducible rfl
 simp only[pu];refine yF0 (i:=14) (v:=.pointer (some ⟨L,G*4,none⟩)) rfl kR kR kR kR kR (λ_ _ _ h=>h) W (Or.inl ⟨by rfl,?_⟩) ?_
 ·intro w' d;have u7:(0:Int)<=(G:Int):=oM;have u8:¬((O:Int)<=(G:Int)):=(oH o2.o);have u9:(G:Int)<(O:Int):=oM;clear d;go_simp;try with_reducible rfl
 simp only[pu];refine yF0 (i:=15) (v:=.pointer (some ⟨L,G*4+1,none⟩)) rfl kR kR kR kR kR (λ_ _ _ h=>h) W (Or.inl ⟨by rfl,?_⟩) ?_
 ·intro w' d;clear d;go_simp;try with_reducible rfl
 simp only[pu];refine yF0 (i:=16) (v:=.agg #[.bool tb,.slice xo xn xc,.slice yo yn yc]) rfl kR kR kR kR kR (λ_ _ _ h=>h) W (Or.inl ⟨by rfl,?_⟩) ?_
 ·intro w' d;obtain⟨⟨z9,b9,c5,a9,c3,c7,b8,b7,c4,c1⟩,⟨a8,c6,a7,c0,a2⟩,⟨z0,z1,z2,z3,z4,z5,z6⟩⟩:=Z.o w' d;clear d;go_simp;try with_reducible rfl
 simp only[pu];refine yF4 (i:=17) kR rfl (λK hK=>?_);go_simp;refine(j7.o D W).mono ?_;rintro e1 D1 ⟨h1,l1,rfl,X,l4⟩;have S1:Ok V2 D1:=W.step l4;obtain⟨o6,m4,rfl⟩:=za0 X.hist;obtain⟨n9,p0,rfl⟩:=za0 X.loops;have m5:Hi (AD D1 F.B (.slice o6 st.2.1.length m4) (.slice n9 st.2.2.length p0) st):=X.base (by have h1:=i6.o.le;have h2:=W.le;omega);refine hK.out _ _ (λ_=>S1) ?_;clear hK K X l4 W j7
 try simp only[pu]
 refine yF4 (i:=18) kR rfl (λK hK=>?_);go_simp;refine(o1.o D1 _ _ S1 m5.o).mono ?_;rintro e2 D2 hv;unfold wj6 at hv;have m7:Hi (D1.heap[g5]?=_):=Ok.row' S1 i4.o
 have f9:Hi (g5≠F.gf/\g5≠F.ga/\g5≠F.gn/\(Value.slice (sA L 0) O d8).ownBlock≠some g5):=by have W:=n0.o;have h1:=HF.o.fB;have h2:=HF.o.aB;have h3:=HF.o.nB;have h4:=d7.o.le;exact⟨oM,oM,oM,zb6 n8.o i4.o dC⟩
 cases W:p.vert I (kt:Int) st with
 | none =>
  rw[W]at hv;obtain⟨rfl,X,f8⟩:=hv;have o8:Hi (D2.heap[g5]?=_):=f8.far g5 _ m7.o f9.o.1 f9.o.2.1 f9.o.2.2.1 f9.o.2.2.2;have p2:=hid X.ok
  have o5:Hi (p.find f=.inl (kt:Int)):=by unfold Hi;have h1:=l3.o;rw[W]at h1;rw[<-i1.o.2];obtain⟨g,hg⟩:∃g,f-G=g+1:=⟨f-G-1,by have h2:=d1.o;have h3:=HN.o;have h4:=c9.o;omega⟩;rw[hg];unfold Pl.verts;rw[HV.o];simp only[h1]
  refine hK.out _ _ (λh=>absurd h dC) ?_;clear hK K X f8 W
  try simp only[pu]
  refine yF1 _ _ _ _ (cO kR) ?_;refine wpAnyH_take (i:=19) (v:=.tuple #[nI 0,.bool false]) rfl kR kR kR (λ_ _ _ h=>h) (Or.inl ⟨by rfl,?_⟩) trivial ?_
  ·intro w' d;clear d;go_simp;try with_reducible rfl
  simp only[pu];refine wpAnyH_take (i:=20) (v:=nI 0) rfl kR kR kR (λ_ _ _ h=>h) (Or.inl ⟨by rfl,?_⟩) trivial ?_
  ·intro w' d;clear d;go_simp;try with_reducible rfl
  simp only[pu];refine wpAnyH_take (i:=21) (v:=.bool false) rfl kR kR kR (λ_ _ _ h=>h) (Or.inl ⟨by rfl,?_⟩) trivial ?_
  ·intro w' d;clear d;go_simp;try with_reducible rfl
  simp only[pu];refine wpAnyH_take (i:=22) (v:=nI 0) rfl kR kR kR (λ_ _ _ h=>h) (Or.inl ⟨by rfl,?_⟩) trivial ?_
  ·intro w' d;clear d;go_simp;try with_reducible rfl
  simp only[pu];refine wpAnyH_take (i:=23) (v:=.bool false) rfl kR kR kR (λ_ _ _ h=>h) (Or.inl ⟨by rfl,?_⟩) trivial ?_
  ·intro w' d;clear d;go_simp;try with_reducible rfl
  simp only[pu];refine wpAnyH_done kR ?_ _;obtain⟨y0,y1,y2,y3,y4,y5,ly⟩:=CY o8.o;go_wp2_with fail;go_ret;unfold wo0;rw[o5.o];exact⟨by rw[<-d3.o.1];rfl,p2.o⟩
 | some r =>
  rw[W]at hv;obtain⟨rfl,k9,X,i7,f8⟩:=hv;have g3:Hi (p.edges G v.2 ((CD p.es v.1).drop ((EZ p.es v.1 k).length+1)) r.1 (J++[(G,r.2,k)])=p.edges G v.2 (CD p.es v.1) vs ls):=by have h1:=l3.o;rw[W]at h1;exact h1.symm
  have g1:Hi (∃ws,r.1=vs++ws):=by obtain⟨ws,h3⟩:=c2.o.1;obtain⟨l,h4,_⟩:=(zo5 f0.o.vi (.inr ⟨e,mG_ d0.o,d3.o.1⟩) W).2.1;exact⟨ws++l,by rw[h4,h3,bN]⟩
  obtain⟨r1,r2⟩:=r;simp only at g3 g1 X i7;have d5:=hid X;have n6:=hid i7;dsimp only;refine hK.out _ _ (λh=>absurd h dC) ?_;clear hK K X i7 f8 W
  try simp only[pu]
  refine yF1 _ _ _ _ (cO kR) ?_;refine wpAnyH_take (i:=19) (v:=.tuple #[nI (r2:Nat),.bool true]) rfl kR kR kR (λ_ _ _ h=>h) (Or.inl ⟨by rfl,?_⟩) trivial ?_
  ·intro w' d;clear d;go_simp;try with_reducible rfl
  simp only[pu];refine wpAnyH_take (i:=20) (v:=nI (r2:Nat)) rfl kR kR kR (λ_ _ _ h=>h) (Or.inl ⟨by rfl,?_⟩) trivial ?_
  ·intro w' d;clear d;go_simp;try with_reducible rfl
  simp only[pu];refine wpAnyH_take (i:=21) (v:=.bool true) rfl kR kR kR (λ_ _ _ h=>h) (Or.inl ⟨by rfl,?_⟩) trivial ?_
  ·intro w' d;clear d;go_simp;try with_reducible rfl
  simp only[pu];refine wpAnyH_take (i:=22) (v:=nI (r2:Nat)) rfl kR kR kR (λ_ _ _ h=>h) (Or.inl ⟨by rfl,?_⟩) trivial ?_
  ·intro w' d;clear d;go_simp;try with_reducible rfl
  simp only[pu];refine wpAnyH_take (i:=23) (v:=.bool true) rfl kR kR kR (λ_ _ _ h=>h) (Or.inl ⟨by rfl,?_⟩) trivial ?_
  ·intro w' d;clear d;go_simp;try with_reducible rfl
  simp only[pu];refine wpAnyH_done kR ?_ _;obtain⟨_,_,o4,l0,_,_,l5,R⟩:=d5.o.cells HF.o;have df:=l5 20
  have n5:Hi (d2<=60000000):=by
   have h1:=k8.o.len;have h2:=c2.o.2.2;have h3:=eI (aH (dL j6) (show vn<=10000 by have:=c9.o;have:=d1.o;omega)) HB.o.small.2.2;have h4:(EZ p.es v.1 k).length<=p.es.length:=by obtain⟨l,hl⟩:=zx0 (es:=p.es) (n:=v.1) k;have h5:=zr0 p.es v.1;rw[hl,aA]at h5;omega
   have h6:=HB.o.small;have h7:=d9.o;unfold Hi;omega
  go_wp2_with (first|(at_builtin;refine ze4 rfl _ _ 35 78 3 24 _ rfl Tryz.underlying35 wq1 (by rfl) (by decide) (by decide) F.B (.slice f7 d2 g0) d2 (lkL J) (by rfl) (World.ownsRow.alloc (by have h:=d5.o.lo;rw[<-d9.o.2]at h;exact h) _) (.slice (sA D2.heap.size 0) 1 1) 1 [nI (G:Nat),nI (r2:Nat),nI (k:Nat)] (by rfl) (SL.one D2 78 [nI (G:Nat),nI (r2:Nat),nI (k:Nat)] rfl (by simp[Value.oneCell'])) (oH n5.o) (by have:=d5.o.le;simp;omega) ?_;intro v9 w9 k1 k2;have o0:=hid k1;have n4:=hid k2;obtain⟨q0,p6,rfl⟩:=za0 k1;have j1:Hi (w9.heap[F.gf]?=some (.cells (F.row k9 (.slice f7 d2 g0)) 67 (0,0))):=(k2.block F.gf (by simp;omega) (λe=>zf4 d5.o.lo HF.o.fB e.symm)).trans (heap_past _ _ _ R d5.o.row);clear k1 k2 o4 l0 l5 R df;have l0:w9.cell? (aD F.gf 20)=some (.slice f7 d2 g0):=(cell_of_row _ _ 20 _ _ _ j1.o).trans rfl;have df:w9.frozen? (aD F.gf 20)=false:=frozen_of_row _ _ _ _ _ j1.o;have R:=za2 j1.o)|fail)
  go_roundw
  case rel =>
   have f1:EZ p.es v.1 (k+1)=EZ p.es v.1 k++[(k,e)]:=by rw[zl7 d0.o,aG j5.o]
   refine⟨k+1,rfl,i2,k9,_,r1,J++[(G,r2,k)],(d5.o.step ((Ok.refl D2).alloc _)).link HF.o (l:=(G,r2,k)) (by have h:=o0.o;rw[d9.o.2]at h ⊢;exact h) n4.o,n6.o,g1.o,?_,?_⟩
   ·rw[f1,aA,aZ];exact g3.o
   rw[f1,aA,aA,aZ,aZ];have:=c2.o.2.2;omega
  case measure=>simp only[intOf];omega
end Go.Proofs.YthoegkcpmgalbaaGreatDoor
