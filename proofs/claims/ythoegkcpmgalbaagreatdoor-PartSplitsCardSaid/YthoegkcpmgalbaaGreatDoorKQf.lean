import Derived.Deep.CutRange
import Derived.Test.YthoegkcpmgalbaaGreatDoorKQe
set_option linter.all false
set_option maxRecDepth 100000
namespace Go.Proofs.YthoegkcpmgalbaaGreatDoor
open Go.RowKit
variable{e:Ed}{g:Nat}{w:World}
def we5(E:EP)(m:Nat):Prop:=∀(w:World) (es:List Ed) (p en fol:Nat),EB E w es->(p<en->en<=E.ns.length)->(∀q,p<=q->q<en->AC E.ns q<=en)->p<=3000->fol<=1000->en<=3000->es.length+2*(en-p)<=100000->E.ns.length+2-p<=m ->
 Calls Tryz.prog 97 #[nI (p:Nat),nI (en:Nat),nI (fol:Nat),ptr E.bt,ptr E.bb,ptr E.bc,ptr E.bl,ptr E.bp] w (λe w'=>e=.returned (.tuple #[])/\∃l,EB E w' (es++l)/\Below E.B w w'/\l.length<=2*(en-p)/\∀f,E.ns.length+2-p<=f->stE E.ns f p en fol=l)
def EB.cs{E:EP}{es:List Ed}(h:EB E w es):w.cell? (aD E.bt 0)=some E.v/\w.cell? (aD E.bp 0)=some E.pv/\w.cell? (aD E.bb 0)=some (.func (.func 94) #[] #[ptr E.bp])/\w.cell? (aD E.bs 0)=some (.func (.func 97) #[] #[ptr E.bt,ptr E.bb,ptr E.bc,ptr E.bl,ptr E.bp])/\w.cell? (aD E.bc 0)=some (.func (.func 95) #[] #[ptr E.bt,ptr E.bp,ptr E.bb,ptr E.bl,ptr E.bs]) :=
 ⟨(cell_of_row _ _ 0 _ _ _ h.t).trans sI,(cell_of_row _ _ 0 _ _ _ h.p).trans sI,(cell_of_row _ _ 0 _ _ _ h.b).trans sI,(cell_of_row _ _ 0 _ _ _ h.s).trans sI,(cell_of_row _ _ 0 _ _ _ h.c).trans sI⟩
def ER(w:World)(g:Nat)(e:Ed):Prop:=w.heap[g]?=some (.cells #[nI e.from',nI e.to',nI e.op,nI e.place,.bool e.sense,.bool e.loop] 98 (0,0))
def ER.cs(h:ER w g e):w.cell? (aD g 0)=some (nI e.from')/\w.cell? (aD g 1)=some (nI e.to')/\w.cell? (aD g 2)=some (nI e.op)/\w.cell? (aD g 3)=some (nI e.place)/\w.cell? (aD g 4)=some (.bool e.sense)/\w.cell? (aD g 5)=some (.bool e.loop) :=
 ⟨(cell_of_row _ _ 0 _ _ _ h).trans sI,(cell_of_row _ _ 1 _ _ _ h).trans sI,(cell_of_row _ _ 2 _ _ _ h).trans sI,(cell_of_row _ _ 3 _ _ _ h).trans sI,(cell_of_row _ _ 4 _ _ _ h).trans sI,(cell_of_row _ _ 5 _ _ _ h).trans sI⟩
def ER.to(h:ER w g e)(v:Int):ER (w.setCell (aD g 1) (nI v)) g { e with to':=v }:=by have:=heap_setCell_same w g 1 _ _ (nI v) h;unfold ER;rw[this];simp
def ER.sense'(h:ER w g e)(v:Bool):ER (w.setCell (aD g 4) (.bool v)) g { e with sense:=v }:=by have:=heap_setCell_same w g 4 _ _ (.bool v) h;unfold ER;rw[this];simp
def ER.past{g':Nat}(h:ER w g e)(d:g≠g')(i:Nat)(v:Value):ER (w.setCell (aD g' i) v) g e:=(Below.heap_setCell w ⟨g',i,none⟩ v g d).trans h
def ER.ok{w':World}(h:ER w g e)(d:Ok w w'):ER w' g e:=d.row' h
def zC3:∀(ts:List Ed),∀u∈edL ts,u.oneCell'=true
 | [],u,h=>by simp[edL]at h
 | e::r,u,h=>by
  have:edL (e::r)=edV e++edL r:=rfl;rw[this,bA]at h;rcases h with h | h
  ·simp only[edV,bJ,dE,fL]at h
   rcases h with rfl | rfl | rfl | rfl | rfl | rfl<;>rfl
  exact zC3 r u h
def zj8{ops:Array Oper}{d:List Oper}{G:Oper}{a:Act}{Q:Exit->Act->World->Prop}(L:G.guard=none)(s x:Operand)
  (ho:G.op=.call { callee:=.builtin .append,args:=#[s,x],argTypes:=#[57,57] })
  (base:Nat) (J:Value) (A:List Ed) (hs:a.eval s=J) (D:w.ownsRow base 98 6 J A.length (edL A))
  (g:Nat) (ts:List Ed) (R:a.eval x=.slice (sA g 0) ts.length ts.length) (Z:w.heap[g]?=some (.cells (edL ts).toArray 98 (0,0)))
  (hb:A.length+ts.length<=1000000) (o:base<=w.heap.size)
  (h:∀I w',w'.ownsRow base 98 6 I (A.length+ts.length) (edL A++edL ts)->w.grownBy w' J.ownBlock->wpList Tryz.prog ops Q d (a.put G.dst I) w'):wpList Tryz.prog ops Q (G::d) a w:=by
 obtain⟨i,W,Y,O,K⟩:=zg6 wo3;refine wpList_append_own_at w L s x 57 ho base 98 i _ 6 40 Tryz.underlying57 W Y O K rfl dC _ _ (edL A) hs D ⟨g,0,none⟩ ts.length ts.length (edL ts) R (yk4 ts) (λj u hj=>?_) (zC3 ts) (by unfold maxLen;omega) oM o ?_
 ·rw[zb7,aL,cell_of_row _ _ j _ _ _ Z]
  simpa using hj
 intro I w' X k2 k3 k4;exact h I w' X k2
def wo5{w':World}{B n:Nat}{G:Value}{L:List Value}(R:w.ownsRow B 98 6 G n L)(J:w.grownBy w' G.ownBlock){b:Nat}{cs:Array Value}{t:TypeId}(d:w.heap[b]?=some (.cells cs t (0,0)))(O:t≠98):w'.heap[b]?=some (.cells cs t (0,0)):=by
 refine(J.block b (za2 d) (λe=>?_)).trans d;rcases R.2 with ⟨rfl,_⟩ | ⟨g,cap,I,rfl,_,D,_⟩
 ·cases e
 have K:b=g:=aI e;subst K;have o:=D.symm.trans d
 injection o with o
 injection o with _ h3 _
 exact O h3.symm
def yk6{E:EP}{G R:World}{es:List Ed}{K:Value}{X:Nat}{v:Value}(o d:Ed)(hE:wm5 E)(H3:EB E G es)(hl:G.heap[E.bl]?=some (.cells #[K] 57 (0,0)))(ho:G.ownsRow E.B 98 6 K es.length (edL es))(hk:Ok G R)(hg:G.heap.size<=X)(W:World)(hW:W=(R.setCell (aD X 1) v).alloc (.cells #[nI o.from',nI o.to',nI o.op,nI o.place,.bool o.sense,.bool o.loop,nI d.from',nI d.to',nI d.op,nI d.place,.bool d.sense,.bool d.loop] 98)) :
  W.ownsRow E.B 98 6 K es.length (edL es)/\W.heap[R.heap.size]?=some (.cells (edL [o,d]).toArray 98 (0,0))/\E.B<=W.heap.size /\
  ∀O I,I.ownsRow E.B 98 6 O (es.length+2) (edL es++edL [o,d])->W.grownBy I K.ownBlock->EB E (I.setCell (aD E.bl 0) O) (es++[o,d])/\Below E.B G (I.setCell (aD E.bl 0) O)/\I.heap[E.bl]?=some (.cells #[K] 57 (0,0))/\I.heap[E.bs]?=some (.cells #[.func (.func 97) #[] #[ptr E.bt,ptr E.bb,ptr E.bc,ptr E.bl,ptr E.bp]] 194 (0,0)):=by
 have D:Ok G W:=by rw[hW];exact(hk.set (p:=⟨X,1,none⟩) hg _).alloc _
 have Z:=hE.lo.2.2.1;have a1:=za2 hl;have L:=za1 ho D;have HW:=H3.ok D;have J:=D.row' hl;refine⟨L,?_,aH Z (dL (za2 J)),λO I k1 Y=>?_⟩
 ·rw[hW];exact heap_at _ _ _ (by simp[World.setCell])
 have hx:=EB.more (es2:=[o,d]) HW hE J L Y k1;exact⟨hx.1,(Below.mono D oM).trans hx.2,wo5 L Y J dC,wo5 L Y HW.s dC⟩
set_option maxHeartbeats 4000000 in
def zX1(E:EP)(hE:wm5 E)(hT:wo4 E.ns)(m:Nat)(hS:∀k,k<m->we5 E k)(w:World)(es:List Ed)(p next:Nat)(h:EB E w es)(hp:p<E.ns.length)(hk:kdA E.ns p=7\/kdA E.ns p=8)(hn:next<=1000)(hl:es.length+2*(AC E.ns p-p)<=100000)(hm:E.ns.length+2-p<=m) :
  Calls Tryz.prog 95 #[nI (p:Nat),nI (next:Nat),ptr E.bt,ptr E.bp,ptr E.bb,ptr E.bl,ptr E.bs] w (λe w'=>e=.returned (.tuple #[])/\∃l,EB E w' (es++l)/\Below E.B w w'/\l.length<=2*(AC E.ns p-p)/\∀f,E.ns.length+2-p<=f+1->chE E.ns p next++(stE E.ns f (AC E.ns (p+1)+1) (AC E.ns (AC E.ns (p+1))) (if kdA E.ns p=8 then ptF E.ns p else next)++stE E.ns f (AC E.ns (AC E.ns (p+1))+1) (AC E.ns p) next)=l):=by
 unfold ptr;have HL:=hE.len;obtain⟨a,ha⟩:=qq (AC E.ns (p+1));obtain⟨s,hs⟩:=qq (AC E.ns a);obtain⟨en,Z⟩:=qq (AC E.ns p);have j3:=ze6 hp;have j6:a<en:=by rw[ha,Z];exact hT p hp hk
 have k4:p+1<a:=by rw[ha];unfold AC;omega
 have k3:s<=en:=by rw[hs,Z];exact zN5 oM (by rw[<-Z];exact j6)
 have j5:a<s:=by rw[hs];unfold AC;omega
 have j4:en<=E.ns.length:=by rw[Z];exact j3.2
 have a1:Hi (a=AC E.ns (p+1)/\s=AC E.ns a/\en=AC E.ns p):=⟨ha,hs,Z⟩;have g1:Hi (∀q,a+1<=q->q<s->AC E.ns q<=s):=λq h1 h2=>by rw[hs];exact zN5 oM (by rw[<-hs];exact h2)
 have g2:Hi (∀q,s+1<=q->q<en->AC E.ns q<=en):=λq h1 h2=>by rw[Z];exact zN5 oM (by rw[<-Z];exact h2)
 rw[<-ha,<-hs,<-Z];obtain⟨bh,g7⟩:=qq ((if kdA E.ns p=8 then ptF E.ns p else next));rw[<-g7];have j9:Hi (bh=(if kdA E.ns p=8 then ptF E.ns p else next)):=g7;clear g7;rw[<-Z]at hl;have H:=hid h;have d:Hi (p+1<a/\a<s/\s<=en/\en<=E.ns.length/\E.ns.length<=1000/\next<=1000):=⟨k4,j5,k3,j4,HL,hn⟩;have HM:Hi (E.ns.length+2-p<=m/\es.length+2*(en-p)<=100000):=⟨hm,hl⟩;have HS:=hid hS;have HK:=hid hk;have HE:=hid hE;obtain⟨np,k6⟩:∃n,E.ns[p]?=some n:=⟨_,gG_ hp⟩;have j0:=hid k6;have b6:=hid hp;have m6:IntKind.i64.wrap ((p:Int)+1)=((p+1:Nat):Int):=zb3 oM;have m8:IntKind.i64.wrap ((a:Int)+1)=((a+1:Nat):Int):=zb3 oM;have m9:IntKind.i64.wrap ((s:Int)+1)=((s+1:Nat):Int):=zb3 oM;obtain⟨_,vo,vc,hv,_⟩:=h.nd;have HV:=hid hv;clear h hp hk hn hl hm hS hE hT ha hs Z j3 k4 j5 k3 j4 k6 HL j6 hv;obtain⟨c0,-,-,-,-⟩:=H.o.cs;have l0:=za2 H.o.t;rw[HV.o]at c0;go_enter Tryz.func95,Tryz.ntmps95
 go_wp2_with (first
  |(go_at_call 96;refine mq (zk7 _ E.ns (p+1) _ (by have:=H.o.nd;rw[HV.o]at this;exact this) (oH d.o) (oH d.o)) λw1 i2=>?_;have H1:=hid (H.o.ok i2);have i9:=hid i2;rw[<-a1.o.1];clear i2)
  | fail)
 obtain⟨h4,-,-,-,-⟩:=H1.o.cs;have l1:=za2 H1.o.t;rw[HV.o]at h4;have k0:w1.drew.cell? (aD E.bt 0)=some (.slice vo E.ns.length vc):=h4
 go_region_held3 (λw'=>w'.cell? (aD E.bt 0)=some (.slice vo E.ns.length vc))
  (first|(with_reducible exact d0) | (with_reducible exact k0) | go_keep)
  (first
  |(go_at_call_of 96 ((a:Int));refine(Calls.mono (zk7 _ E.ns a _ (by have:=(H1.o.ok ((Ok.refl _).draws 1)).nd;rw[HV.o]at this;exact this) (oH d.o) (oH d.o)) ?_);rintro e w2 ⟨rfl,h9⟩;have H2:Hi (EB E w2 es):=H1.o.ok (Ok.step (by repeat (first | exact Ok.refl _ | refine Below.drew ?_)) h9);have j7:Hi (Ok w w2):=i9.o.step (Ok.step (by repeat (first | exact Ok.refl _ | refine Below.drew ?_)) h9);rw[<-a1.o.2.1];have d0:=H2.o.cs.1;rw[HV.o]at d0;clear h9)
  |(go_at_call_of 96 ((p:Int));refine(Calls.mono (zk7 _ E.ns p _ (by have:=H2.o.nd;rw[HV.o]at this;exact this) (oH d.o) (oH d.o)) ?_);rintro e I ⟨rfl,g5⟩;have R:=hid (H2.o.ok g5);have i8:=hid (j7.o.step g5);rw[<-a1.o.2.2];have d0:=R.o.cs.1;rw[HV.o]at d0;clear g5)
  | fail)
 clear c0 h4 k0 l0 l1 d0 H1 H2 i9 j7;obtain⟨c0,c1,c2,c3,c4⟩:=R.o.cs;have l0:=za2 R.o.t;have l1:=za2 R.o.p;rw[HV.o]at c0;obtain⟨g,pc,h8,m3,k5⟩:=R.o.point;rw[h8]at c1;have m7:=hid h8;have r0:=k5 p (dL b6.o);have m2:(p:Int)<(E.ns.length:Int):=za5 b6.o;have m0:(p:Int)<(E.ns.length:Int)+1:=oM;obtain⟨_,m4,m5,e1,_,_,hN⟩:=R.o.nd;rw[HV.o]at e1
 injection e1 with e1 e2 e3;clear e2
 subst e1 e3;obtain⟨b,o,rfl,N1⟩:=hN.resolve_left (λe=>by have:=b6.o;rw[e]at this;simp at this);obtain⟨-,m1,-,-,-,-⟩:=N1.get j0.o;have lb:=N1.lt;have j8:kdA E.ns p=np.kind:=by unfold kdA;rw[j0.o];rfl
 obtain⟨q,hq⟩:=qq (ptF E.ns p);have HQ:Hi (q=ptF E.ns p/\q<=1000):=⟨hq,oK (zq9 E.ns p) d.o⟩;rw[<-hq]at r0
 obtain⟨kd,g0⟩:∃k:Nat,kdA E.ns p=(k:Int)/\(k=7\/k=8):=by
  rcases HK.o with h | h
  ·exact⟨7,h,.inl rfl⟩
  exact⟨8,h,.inr rfl⟩
 rw[<-j8,g0.1]at m1;have k8:kd<16:=oM;have l4:(kd:Int)<16:=oM;have s0:=R.o.st.op kd k8
 have k9:opT.getD kd 0=5:=by rcases g0.2 with h | h<;>(rw[h];rfl)
 rw[k9]at s0;have l3:=R.o.st.lt;have f8:=hid g0;clear k5 hN N1 j8 hq g0 k9 h8;rcases f8.o.2 with h7 | h7
 ·subst h7
  go_wp2_with fail
  go_region
  go_wp2_with fail;clear c0 c1 c2 c3 c4 l0 l1 r0 m1 s0 l3 lb
  go_cut [15,16] from 55 to 56 (λh5 i3 u=>Hi (∃D L:Nat,h5=pA D 0/\i3=pA L 0/\(D≠L/\I.heap.size<D/\I.heap.size<L)/\ER u D ⟨(q:Nat),0,5,(p:Int)+1,false,false⟩/\ER u L ⟨(q:Nat),0,5,(p:Int)+1,false,false⟩/\Ok I u))
  case first =>
   go_region
   ·go_wp2_with fail
    go_meet
    case rel=>exact⟨I.heap.size+1,I.heap.size+1+1,rfl,rfl,⟨oM,oM,oM⟩,heap_past _ _ _ sI (heap_at _ _ _ sI),heap_at _ _ _ sI,((((Ok.refl _).alloc _).alloc _).alloc _).draws 2⟩
   go_wp2_with fail
   go_meet
   case rel=>exact⟨I.heap.size+1+1,I.heap.size+1,rfl,rfl,⟨oM,oM,oM⟩,heap_at _ _ _ sI,heap_past _ _ _ sI (heap_at _ _ _ sI),((((Ok.refl _).alloc _).alloc _).alloc _).draws 2⟩
  case rest =>
  obtain⟨D,L,f0,c6,b3,a8,a5,J⟩:=hcut.o;subst f0 c6;obtain⟨w5,f6⟩:=qq (wc);rw[<-f6]at a8 a5 J ⊢;have i5:=hid J;have H5:=hid (R.o.ok J);have HG:=hid b3;have W:D≠L:=b3.1;have b0:L≠D:=eL W;have e0:=za2 a8;have e1:=za2 a5;have R0:=hid a8;have R1:=hid a5;clear f6 a8 a5 J b3 hcut;obtain⟨c0,c1,c2,c3,c4⟩:=H5.o.cs;unfold ptr at c2 c3 c4;have l2:=za2 H5.o.b;have i1:E.bb≠D:=oK (za2 R.o.b) HG.o
  have l9:D≠E.bb:=eL i1
  go_wp2_with (first
   |(go_at_call_of 94 ((a:Int));refine Calls.mono (zm6 E _ es (a+1) s next H5.o (λ_=>by have:=d.o;omega)) ?_;rintro e w6 ⟨rfl,a3⟩;have b1:=hid (i5.o.step a3);have r6:=hid (R0.o.ok a3);have s6:=hid (R1.o.ok a3);obtain⟨x0,x1,x2,x3,x4,x5⟩:=r6.o.cs;have z1:w6.frozen? (aD D 1)=false:=frozen_of_row _ _ _ _ _ r6.o;have z4:w6.frozen? (aD D 4)=false:=frozen_of_row _ _ _ _ _ r6.o;have l6:=za2 r6.o;obtain⟨K,b4⟩:=qq (bgF E.ns (a+1) s next);rw[<-b4];have g3:Hi (K=bgF E.ns (a+1) s next):=b4;obtain⟨-,-,d2,-,-⟩:=(R.o.ok b1.o).cs;unfold ptr at d2;have h0:=za2 (R.o.ok b1.o).b;clear b4 a3 c0 c1 c2 c3 c4 l2)
   | fail)
  go_at_call_of 94 ((en:Int))
  obtain⟨w7,X⟩:=qq ((w6.setCell ⟨D,4,none⟩ (Value.bool true)).setCell ⟨D,1,none⟩ (nI (K:Nat)));rw[<-X];have b9:Hi (Ok I w7):=by(unfold Hi;rw[X];exact(b1.o.set (p:=⟨D,4,none⟩) (by have:=HG.o;show I.heap.size<=D;omega) _).set (p:=⟨D,1,none⟩) (by have:=HG.o;show I.heap.size<=D;omega) _)
  have r7:Hi (ER w7 D ⟨(q:Nat),(K:Nat),5,(p:Int)+1,true,false⟩):=by(unfold Hi;rw[X];exact(r6.o.sense' true).to _)
  have s7:Hi (ER w7 L ⟨(q:Nat),0,5,(p:Int)+1,false,false⟩):=by(unfold Hi;rw[X];exact(s6.o.past (by first | exact W | exact b0) _ _).past (by first | exact W | exact b0) _ _)
  clear X r6 s6 x0 x1 x2 x3 x4 x5 z1 z4 l6 d2 h0;refine Calls.mono (zm6 E _ es (s+1) en next (R.o.ok b9.o) (λ_=>by have:=d.o;omega)) ?_;rintro e w8 ⟨rfl,a7⟩;have b7:=hid (b9.o.step a7);have r8:=hid (r7.o.ok a7);have s8:=hid (s7.o.ok a7);obtain⟨x0,x1,x2,x3,x4,x5⟩:=s8.o.cs;have z1:w8.frozen? (aD L 1)=false:=frozen_of_row _ _ _ _ _ s8.o;have l8:=za2 s8.o;obtain⟨O,b2⟩:=qq (bgF E.ns (s+1) en next);rw[<-b2];have i4:Hi (O=bgF E.ns (s+1) en next):=b2;clear b2 a7 r7 s7;have i6:=za2 r8.o;obtain⟨y0,y1,y2,y3,y4,y5⟩:=r8.o.cs;have g8:E.bl≠L:=by obtain⟨lv,h1,_⟩:=R.o.l;have:=za2 h1;have:=HG.o;omega
  have l5:L≠E.bl:=eL g8;obtain⟨lv,a9,b5⟩:=R.o.l;obtain⟨lo,lc,rfl⟩:=za0 b5;have cl:w8.cell? (aD E.bl 0)=some (.slice lo es.length lc):=(cell_of_row _ _ 0 _ _ _ (b7.o.row' a9)).trans sI;have ll:=za2 (b7.o.row' a9);have f4:Hi (I.heap[E.bl]?=some (.cells #[.slice lo es.length lc] 57 (0,0))/\I.ownsRow E.B 98 6 (.slice lo es.length lc) es.length (edL es)):=⟨a9,b5⟩;have ns0:E.bs≠E.bl:=eL HE.o.ne.2.2.2.1;have l7:E.bl≠E.bs:=HE.o.ne.2.2.2.1;clear a9 b5;obtain⟨WW,b8⟩:=qq ((w8.setCell ⟨L,1,none⟩ (nI (O:Nat))).alloc (.cells #[nI (q:Nat),nI (K:Nat),nI 5,nI ((p:Int)+1),.bool true,.bool false,nI (q:Nat),nI (O:Nat),nI 5,nI ((p:Int)+1),.bool false,.bool false] 98));obtain⟨A1,A2,A3,A4⟩:=yk6 ⟨(q:Nat),(K:Nat),5,(p:Int)+1,true,false⟩ ⟨(q:Nat),(O:Nat),5,(p:Int)+1,false,false⟩ HE.o R.o f4.o.1 f4.o.2 b7.o (by have:=HG.o;show I.heap.size<=L;omega) WW b8;have d4:Hi _:=A1;have f7:Hi _:=A2;have f1:Hi _:=A3;have d6:Hi _:=A4;have d8:Hi _:=b8;have h3:Hi (es.length+2<=1000000):=by have:=HM.o;have:=d.o;unfold Hi;omega
  clear A1 A2 A3 A4 b8
  go_wp2_with (first
   |(at_builtin;go_loud (rw[<-d8.o];refine zj8 rfl _ _ rfl E.B _ es (by rfl) d4.o w8.heap.size [⟨(q:Nat),(K:Nat),5,(p:Int)+1,true,false⟩,⟨(q:Nat),(O:Nat),5,(p:Int)+1,false,false⟩] (by rfl) f7.o h3.o f1.o ?_;intro v9 w9 k1 k2;obtain⟨o9,c9,rfl⟩:=za0 k1;obtain⟨D1,D2,D3,D4⟩:=d6.o _ w9 k1 k2;have M:Hi (EB E (w9.setCell (aD E.bl 0) (.slice o9 (es.length+2) c9)) (es++[⟨(q:Nat),(K:Nat),5,(p:Int)+1,true,false⟩,⟨(q:Nat),(O:Nat),5,(p:Int)+1,false,false⟩])/\Below E.B I (w9.setCell (aD E.bl 0) (.slice o9 (es.length+2) c9))):=⟨D1,D2⟩;have g9:w9.cell? (aD E.bl 0)=some (.slice lo es.length lc):=(cell_of_row _ _ 0 _ _ _ D3).trans (by simp);have g4:w9.frozen? (aD E.bl 0)=false:=frozen_of_row _ _ _ _ _ D3;have g6:=za2 D3;have i0:=za2 D4;have c5:w9.cell? (aD E.bs 0)=some (.func (.func 97) #[] #[ptr E.bt,ptr E.bb,ptr E.bc,ptr E.bl,ptr E.bp]):=(cell_of_row _ _ 0 _ _ _ D4).trans (by simp);unfold ptr at c5;clear k1 k2 D1 D2 D3 D4 x0 x1 x2 x3 x4 x5 y0 y1 y2 y3 y4 y5 z1 l8 i6 ll cl))
   | fail)
  obtain⟨a2,Y⟩:=qq (w9.setCell ⟨E.bl,0,none⟩ (.slice o9 (es.length+2) c9));have f5:Hi (EB E a2 (es++[⟨(q:Nat),(K:Nat),5,(p:Int)+1,true,false⟩,⟨(q:Nat),(O:Nat),5,(p:Int)+1,false,false⟩])/\Below E.B I a2):=by rw[Y];exact M.o
  rw[<-Y];clear Y M d4 f7 f1 d6 d8 g9 g4 g6 i0 c5;refine Calls.mono (HS.o (E.ns.length+2-(a+1)) (by have:=d.o;have:=HM.o;have:=b6.o;omega) a2 (es++[⟨(q:Nat),(K:Nat),5,(p:Int)+1,true,false⟩,⟨(q:Nat),(O:Nat),5,(p:Int)+1,false,false⟩]) (a+1) s next f5.o.1 (λ_=>by have:=d.o;omega) g1.o (oH d.o) (oK d.o HQ.o) (oH d.o) (by rw[aA];have:=HM.o;have:=d.o;simp only[aR,cM];omega) (aK _)) ?_;rintro e a4 ⟨rfl,j1,c8,d9,f3,c7⟩;have G:Hi (EB E a4 (es++[⟨(q:Nat),(K:Nat),5,(p:Int)+1,true,false⟩,⟨(q:Nat),(O:Nat),5,(p:Int)+1,false,false⟩]++j1)/\Below E.B a2 a4/\j1.length<=2*(s-(a+1))/\∀f,E.ns.length+2-(a+1)<=f->stE E.ns f (a+1) s next=j1):=⟨c8,d9,f3,c7⟩;obtain⟨-,-,-,d3,-⟩:=G.o.1.cs;unfold ptr at d3;have k7:=za2 G.o.1.s;clear c8 d9 f3 c7;go_wp2_with fail;refine Calls.mono (HS.o (E.ns.length+2-(s+1)) (by have:=d.o;have:=HM.o;have:=b6.o;omega) a4 (es++[⟨(q:Nat),(K:Nat),5,(p:Int)+1,true,false⟩,⟨(q:Nat),(O:Nat),5,(p:Int)+1,false,false⟩]++j1) (s+1) en next G.o.1 (λ_=>by have:=d.o;omega) g2.o (oH d.o) (oH d.o) (oH d.o) (by rw[aA,aA];have:=HM.o;have:=d.o;have:=G.o.2.2.1;simp only[aR,cM];omega) (aK _)) ?_;rintro e f9 ⟨rfl,j2,d1,d5,d7,f2⟩;have a6:Hi (EB E f9 (es++[⟨(q:Nat),(K:Nat),5,(p:Int)+1,true,false⟩,⟨(q:Nat),(O:Nat),5,(p:Int)+1,false,false⟩]++j1++j2)/\Below E.B a4 f9/\j2.length<=2*(en-(s+1))/\∀f,E.ns.length+2-(s+1)<=f->stE E.ns f (s+1) en next=j2):=⟨d1,d5,d7,f2⟩;clear d1 d5 d7 f2
  have i7:Hi ([⟨(q:Nat),(K:Nat),5,(p:Int)+1,true,false⟩,⟨(q:Nat),(O:Nat),5,(p:Int)+1,false,false⟩]=chE E.ns p next):=by unfold Hi chE;rw[<-a1.o.1,<-a1.o.2.1,<-a1.o.2.2,f8.o.1,g3.o,i4.o,HQ.o.1];rfl
  go_wp2_with fail
  go_end0
  refine⟨rfl,chE E.ns p next++(j1++j2),?_,?_,?_,?_⟩
  ·have:=a6.o.1
   rw[i7.o]at this;simpa only[bN] using this
  ·exact(((Below.mono i8.o (by have h1:=HE.o.lo.1;have h2:=za2 H.o.t;omega)).trans f5.o.2).trans G.o.2.1).trans a6.o.2.1
  ·rw[aA,aA,yk5]
   have:=d.o;have:=G.o.2.2.1;have:=a6.o.2.2.1;omega
  intro f hf;have S1:=G.o.2.2.2 f (oH d.o);have S2:=a6.o.2.2.2 f (oH d.o)
  have h6:bh=next:=by
   rw[j9.o,f8.o.1]
   first | rfl | (rw[HQ.o.1];rfl)
  rw[h6,S1,S2]
 subst h7;go_wp2_with fail
 go_region
 go_wp2_with fail;clear c0 c1 c2 c3 c4 l0 l1 r0 m1 s0 l3 lb
 go_cut [15,16] from 55 to 56 (λh5 i3 u=>Hi (∃D L:Nat,h5=pA D 0/\i3=pA L 0/\(D≠L/\I.heap.size<D/\I.heap.size<L)/\ER u D ⟨(q:Nat),0,5,(p:Int)+1,false,true⟩/\ER u L ⟨(q:Nat),0,5,(p:Int)+1,false,true⟩/\Ok I u))
 case first =>
  go_region
  ·go_wp2_with fail
   go_meet
   case rel=>exact⟨I.heap.size+1,I.heap.size+1+1,rfl,rfl,⟨oM,oM,oM⟩,heap_past _ _ _ sI (heap_at _ _ _ sI),heap_at _ _ _ sI,((((Ok.refl _).alloc _).alloc _).alloc _).draws 2⟩
  go_wp2_with fail
  go_meet
  case rel=>exact⟨I.heap.size+1+1,I.heap.size+1,rfl,rfl,⟨oM,oM,oM⟩,heap_at _ _ _ sI,heap_past _ _ _ sI (heap_at _ _ _ sI),((((Ok.refl _).alloc _).alloc _).alloc _).draws 2⟩
 case rest =>
 obtain⟨D,L,f0,c6,b3,a8,a5,J⟩:=hcut.o;subst f0 c6;obtain⟨w5,f6⟩:=qq (wc);rw[<-f6]at a8 a5 J ⊢;have i5:=hid J;have H5:=hid (R.o.ok J);have HG:=hid b3;have W:D≠L:=b3.1;have b0:L≠D:=eL W;have e0:=za2 a8;have e1:=za2 a5;have R0:=hid a8;have R1:=hid a5;clear f6 a8 a5 J b3 hcut;obtain⟨c0,c1,c2,c3,c4⟩:=H5.o.cs;unfold ptr at c2 c3 c4;have l2:=za2 H5.o.b;have i1:E.bb≠D:=oK (za2 R.o.b) HG.o
 have l9:D≠E.bb:=eL i1
 go_wp2_with (first
  |(go_at_call_of 94 ((a:Int));refine Calls.mono (zm6 E _ es (a+1) s q H5.o (λ_=>by have:=d.o;omega)) ?_;rintro e w6 ⟨rfl,a3⟩;have b1:=hid (i5.o.step a3);have r6:=hid (R0.o.ok a3);have s6:=hid (R1.o.ok a3);obtain⟨x0,x1,x2,x3,x4,x5⟩:=r6.o.cs;have z1:w6.frozen? (aD D 1)=false:=frozen_of_row _ _ _ _ _ r6.o;have z4:w6.frozen? (aD D 4)=false:=frozen_of_row _ _ _ _ _ r6.o;have l6:=za2 r6.o;obtain⟨K,b4⟩:=qq (bgF E.ns (a+1) s q);rw[<-b4];have g3:Hi (K=bgF E.ns (a+1) s q):=b4;obtain⟨-,-,d2,-,-⟩:=(R.o.ok b1.o).cs;unfold ptr at d2;have h0:=za2 (R.o.ok b1.o).b;clear b4 a3 c0 c1 c2 c3 c4 l2)
  | fail)
 go_at_call_of 94 ((en:Int))
 obtain⟨w7,X⟩:=qq ((w6.setCell ⟨D,4,none⟩ (Value.bool true)).setCell ⟨D,1,none⟩ (nI (K:Nat)));rw[<-X];have b9:Hi (Ok I w7):=by(unfold Hi;rw[X];exact(b1.o.set (p:=⟨D,4,none⟩) (by have:=HG.o;show I.heap.size<=D;omega) _).set (p:=⟨D,1,none⟩) (by have:=HG.o;show I.heap.size<=D;omega) _)
 have r7:Hi (ER w7 D ⟨(q:Nat),(K:Nat),5,(p:Int)+1,true,true⟩):=by(unfold Hi;rw[X];exact(r6.o.sense' true).to _)
 have s7:Hi (ER w7 L ⟨(q:Nat),0,5,(p:Int)+1,false,true⟩):=by(unfold Hi;rw[X];exact(s6.o.past (by first | exact W | exact b0) _ _).past (by first | exact W | exact b0) _ _)
 clear X r6 s6 x0 x1 x2 x3 x4 x5 z1 z4 l6 d2 h0;refine Calls.mono (zm6 E _ es (s+1) en next (R.o.ok b9.o) (λ_=>by have:=d.o;omega)) ?_;rintro e w8 ⟨rfl,a7⟩;have b7:=hid (b9.o.step a7);have r8:=hid (r7.o.ok a7);have s8:=hid (s7.o.ok a7);obtain⟨x0,x1,x2,x3,x4,x5⟩:=s8.o.cs;have z1:w8.frozen? (aD L 1)=false:=frozen_of_row _ _ _ _ _ s8.o;have l8:=za2 s8.o;obtain⟨O,b2⟩:=qq (bgF E.ns (s+1) en next);rw[<-b2];have i4:Hi (O=bgF E.ns (s+1) en next):=b2;clear b2 a7 r7 s7;have i6:=za2 r8.o;obtain⟨y0,y1,y2,y3,y4,y5⟩:=r8.o.cs;have g8:E.bl≠L:=by obtain⟨lv,h1,_⟩:=R.o.l;have:=za2 h1;have:=HG.o;omega
 have l5:L≠E.bl:=eL g8;obtain⟨lv,a9,b5⟩:=R.o.l;obtain⟨lo,lc,rfl⟩:=za0 b5;have cl:w8.cell? (aD E.bl 0)=some (.slice lo es.length lc):=(cell_of_row _ _ 0 _ _ _ (b7.o.row' a9)).trans sI;have ll:=za2 (b7.o.row' a9);have f4:Hi (I.heap[E.bl]?=some (.cells #[.slice lo es.length lc] 57 (0,0))/\I.ownsRow E.B 98 6 (.slice lo es.length lc) es.length (edL es)):=⟨a9,b5⟩;have ns0:E.bs≠E.bl:=eL HE.o.ne.2.2.2.1;have l7:E.bl≠E.bs:=HE.o.ne.2.2.2.1;clear a9 b5;obtain⟨WW,b8⟩:=qq ((w8.setCell ⟨L,1,none⟩ (nI (O:Nat))).alloc (.cells #[nI (q:Nat),nI (K:Nat),nI 5,nI ((p:Int)+1),.bool true,.bool true,nI (q:Nat),nI (O:Nat),nI 5,nI ((p:Int)+1),.bool false,.bool true] 98));obtain⟨A1,A2,A3,A4⟩:=yk6 ⟨(q:Nat),(K:Nat),5,(p:Int)+1,true,true⟩ ⟨(q:Nat),(O:Nat),5,(p:Int)+1,false,true⟩ HE.o R.o f4.o.1 f4.o.2 b7.o (by have:=HG.o;show I.heap.size<=L;omega) WW b8;have d4:Hi _:=A1;have f7:Hi _:=A2;have f1:Hi _:=A3;have d6:Hi _:=A4;have d8:Hi _:=b8;have h3:Hi (es.length+2<=1000000):=by have:=HM.o;have:=d.o;unfold Hi;omega
 clear A1 A2 A3 A4 b8
 go_wp2_with (first
  |(at_builtin;go_loud (rw[<-d8.o];refine zj8 rfl _ _ rfl E.B _ es (by rfl) d4.o w8.heap.size [⟨(q:Nat),(K:Nat),5,(p:Int)+1,true,true⟩,⟨(q:Nat),(O:Nat),5,(p:Int)+1,false,true⟩] (by rfl) f7.o h3.o f1.o ?_;intro v9 w9 k1 k2;obtain⟨o9,c9,rfl⟩:=za0 k1;obtain⟨D1,D2,D3,D4⟩:=d6.o _ w9 k1 k2;have M:Hi (EB E (w9.setCell (aD E.bl 0) (.slice o9 (es.length+2) c9)) (es++[⟨(q:Nat),(K:Nat),5,(p:Int)+1,true,true⟩,⟨(q:Nat),(O:Nat),5,(p:Int)+1,false,true⟩])/\Below E.B I (w9.setCell (aD E.bl 0) (.slice o9 (es.length+2) c9))):=⟨D1,D2⟩;have g9:w9.cell? (aD E.bl 0)=some (.slice lo es.length lc):=(cell_of_row _ _ 0 _ _ _ D3).trans (by simp);have g4:w9.frozen? (aD E.bl 0)=false:=frozen_of_row _ _ _ _ _ D3;have g6:=za2 D3;have i0:=za2 D4;have c5:w9.cell? (aD E.bs 0)=some (.func (.func 97) #[] #[ptr E.bt,ptr E.bb,ptr E.bc,ptr E.bl,ptr E.bp]):=(cell_of_row _ _ 0 _ _ _ D4).trans (by simp);unfold ptr at c5;clear k1 k2 D1 D2 D3 D4 x0 x1 x2 x3 x4 x5 y0 y1 y2 y3 y4 y5 z1 l8 i6 ll cl))
  | fail)
 obtain⟨a2,Y⟩:=qq (w9.setCell ⟨E.bl,0,none⟩ (.slice o9 (es.length+2) c9));have f5:Hi (EB E a2 (es++[⟨(q:Nat),(K:Nat),5,(p:Int)+1,true,true⟩,⟨(q:Nat),(O:Nat),5,(p:Int)+1,false,true⟩])/\Below E.B I a2):=by rw[Y];exact M.o
 rw[<-Y];clear Y M d4 f7 f1 d6 d8 g9 g4 g6 i0 c5;refine Calls.mono (HS.o (E.ns.length+2-(a+1)) (by have:=d.o;have:=HM.o;have:=b6.o;omega) a2 (es++[⟨(q:Nat),(K:Nat),5,(p:Int)+1,true,true⟩,⟨(q:Nat),(O:Nat),5,(p:Int)+1,false,true⟩]) (a+1) s q f5.o.1 (λ_=>by have:=d.o;omega) g1.o (oH d.o) (oK d.o HQ.o) (oH d.o) (by rw[aA];have:=HM.o;have:=d.o;simp only[aR,cM];omega) (aK _)) ?_;rintro e a4 ⟨rfl,j1,c8,d9,f3,c7⟩;have G:Hi (EB E a4 (es++[⟨(q:Nat),(K:Nat),5,(p:Int)+1,true,true⟩,⟨(q:Nat),(O:Nat),5,(p:Int)+1,false,true⟩]++j1)/\Below E.B a2 a4/\j1.length<=2*(s-(a+1))/\∀f,E.ns.length+2-(a+1)<=f->stE E.ns f (a+1) s q=j1):=⟨c8,d9,f3,c7⟩;obtain⟨-,-,-,d3,-⟩:=G.o.1.cs;unfold ptr at d3;have k7:=za2 G.o.1.s;clear c8 d9 f3 c7;go_wp2_with fail;refine Calls.mono (HS.o (E.ns.length+2-(s+1)) (by have:=d.o;have:=HM.o;have:=b6.o;omega) a4 (es++[⟨(q:Nat),(K:Nat),5,(p:Int)+1,true,true⟩,⟨(q:Nat),(O:Nat),5,(p:Int)+1,false,true⟩]++j1) (s+1) en next G.o.1 (λ_=>by have:=d.o;omega) g2.o (oH d.o) (oH d.o) (oH d.o) (by rw[aA,aA];have:=HM.o;have:=d.o;have:=G.o.2.2.1;simp only[aR,cM];omega) (aK _)) ?_;rintro e f9 ⟨rfl,j2,d1,d5,d7,f2⟩;have a6:Hi (EB E f9 (es++[⟨(q:Nat),(K:Nat),5,(p:Int)+1,true,true⟩,⟨(q:Nat),(O:Nat),5,(p:Int)+1,false,true⟩]++j1++j2)/\Below E.B a4 f9/\j2.length<=2*(en-(s+1))/\∀f,E.ns.length+2-(s+1)<=f->stE E.ns f (s+1) en next=j2):=⟨d1,d5,d7,f2⟩;clear d1 d5 d7 f2
 have i7:Hi ([⟨(q:Nat),(K:Nat),5,(p:Int)+1,true,true⟩,⟨(q:Nat),(O:Nat),5,(p:Int)+1,false,true⟩]=chE E.ns p next):=by unfold Hi chE;rw[<-a1.o.1,<-a1.o.2.1,<-a1.o.2.2,f8.o.1,g3.o,i4.o,HQ.o.1];rfl
 go_wp2_with fail
 go_end0
 refine⟨rfl,chE E.ns p next++(j1++j2),?_,?_,?_,?_⟩
 ·have:=a6.o.1
  rw[i7.o]at this;simpa only[bN] using this
 ·exact(((Below.mono i8.o (by have h1:=HE.o.lo.1;have h2:=za2 H.o.t;omega)).trans f5.o.2).trans G.o.2.1).trans a6.o.2.1
 ·rw[aA,aA,yk5]
  have:=d.o;have:=G.o.2.2.1;have:=a6.o.2.2.1;omega
 intro f hf;have S1:=G.o.2.2.2 f (oH d.o);have S2:=a6.o.2.2.2 f (oH d.o)
 have h6:bh=q:=by
  rw[j9.o,f8.o.1]
  first | rfl | (rw[HQ.o.1];rfl)
 rw[h6,S1,S2]
end Go.Proofs.YthoegkcpmgalbaaGreatDoor
