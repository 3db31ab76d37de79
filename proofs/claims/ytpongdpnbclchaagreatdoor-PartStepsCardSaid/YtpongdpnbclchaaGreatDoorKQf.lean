import Derived.Deep.CutRange
import Derived.Test.YtpongdpnbclchaaGreatDoorKQe
set_option linter.all false
set_option maxRecDepth 100000
namespace Go.Proofs.YtpongdpnbclchaaGreatDoor
variable{e:Ed}{g:Nat}{w:World}
section
open Go.RowKit
def we6(E:EP)(m:Nat):Prop:=∀(w:World) (es:List Ed) (p en fol:Nat),EB E w es->(p<en->en<=E.ns.length)->(∀q,p<=q->q<en->AB E.ns q<=en)->p<=3000->fol<=1000->en<=3000->es.length+2*(en-p)<=100000->E.ns.length+2-p<=m ->
 Calls Tryz.prog 94 #[nI (p:Nat),nI (en:Nat),nI (fol:Nat),ptr E.bt,ptr E.bb,ptr E.bc,ptr E.bl,ptr E.bp] w (λe w'=>e=.returned (.tuple #[])/\∃l,EB E w' (es++l)/\Below E.B w w'/\l.length<=2*(en-p)/\∀f,E.ns.length+2-p<=f->stE E.ns f p en fol=l)
theorem EB.cs{E:EP}{es:List Ed}(h:EB E w es):w.cell? (aD E.bt 0)=some E.v/\w.cell? (aD E.bp 0)=some E.pv/\w.cell? (aD E.bb 0)=some (.func (.func 91) #[] #[ptr E.bp])/\w.cell? (aD E.bs 0)=some (.func (.func 94) #[] #[ptr E.bt,ptr E.bb,ptr E.bc,ptr E.bl,ptr E.bp])/\w.cell? (aD E.bc 0)=some (.func (.func 92) #[] #[ptr E.bt,ptr E.bp,ptr E.bb,ptr E.bl,ptr E.bs]) :=
 ⟨(cell_of_row _ _ 0 _ _ _ h.t).trans sI,(cell_of_row _ _ 0 _ _ _ h.p).trans sI,(cell_of_row _ _ 0 _ _ _ h.b).trans sI,(cell_of_row _ _ 0 _ _ _ h.s).trans sI,(cell_of_row _ _ 0 _ _ _ h.c).trans sI⟩
def ER(w:World)(g:Nat)(e:Ed):Prop:=w.heap[g]?=some (.cells #[nI e.from',nI e.to',nI e.op,nI e.place,.bool e.sense,.bool e.loop] 59 (0,0))
theorem ER.cs(h:ER w g e):w.cell? (aD g 0)=some (nI e.from')/\w.cell? (aD g 1)=some (nI e.to')/\w.cell? (aD g 2)=some (nI e.op)/\w.cell? (aD g 3)=some (nI e.place)/\w.cell? (aD g 4)=some (.bool e.sense)/\w.cell? (aD g 5)=some (.bool e.loop) :=
 ⟨(cell_of_row _ _ 0 _ _ _ h).trans sI,(cell_of_row _ _ 1 _ _ _ h).trans sI,(cell_of_row _ _ 2 _ _ _ h).trans sI,(cell_of_row _ _ 3 _ _ _ h).trans sI,(cell_of_row _ _ 4 _ _ _ h).trans sI,(cell_of_row _ _ 5 _ _ _ h).trans sI⟩
theorem ER.to(h:ER w g e)(v:Int):ER (w.setCell (aD g 1) (nI v)) g { e with to':=v }:=by have:=heap_setCell_same w g 1 _ _ (nI v) h;unfold ER;rw[this];simp
theorem ER.sense'(h:ER w g e)(v:Bool):ER (w.setCell (aD g 4) (.bool v)) g { e with sense:=v }:=by have:=heap_setCell_same w g 4 _ _ (.bool v) h;unfold ER;rw[this];simp
theorem ER.past{g':Nat}(h:ER w g e)(hn:g≠g')(i:Nat)(v:Value):ER (w.setCell (aD g' i) v) g e:=(Below.heap_setCell w ⟨g',i,none⟩ v g hn).trans h
theorem ER.ok{w':World}(h:ER w g e)(hk:Ok w w'):ER w' g e:=hk.row' h
theorem ER.draws(h:ER w g e)(n:Nat):ER (w.drewN n) g e:=h
theorem zC3:∀(ts:List Ed),∀u∈edL ts,u.oneCell'=true
 | [],u,h=>by simp[edL]at h
 | e::r,u,h=>by
  have:edL (e::r)=edV e++edL r:=rfl;rw[this,List.mem_append]at h;rcases h with h | h
  ·simp only[edV,List.mem_cons,List.not_mem_nil,or_false]at h
   rcases h with rfl | rfl | rfl | rfl | rfl | rfl<;>rfl
  exact zC3 r u h
theorem zj8{ops:Array Oper}{rest:List Oper}{op:Oper}{a:Act}{Q:Exit->Act->World->Prop}(hgd:op.guard=none)(s x:Operand)
  (ho:op.op=.call { callee:=.builtin .append,args:=#[s,x],argTypes:=#[51,51] })
  (base:Nat) (sv:Value) (A:List Ed) (hs:a.eval s=sv) (hown:w.ownsRow base 59 6 sv A.length (edL A))
  (g:Nat) (ts:List Ed) (hx:a.eval x=.slice (sA g 0) ts.length ts.length) (hT:w.heap[g]?=some (.cells (edL ts).toArray 59 (0,0)))
  (hb:A.length+ts.length<=1000000) (hbase:base<=w.heap.size)
  (h:∀v' w',w'.ownsRow base 59 6 v' (A.length+ts.length) (edL A++edL ts)->w.grownBy w' sv.ownBlock->wpList Tryz.prog ops Q rest (a.put op.dst v') w'):wpList Tryz.prog ops Q (op::rest) a w:=by
 obtain⟨i,hi,hz,hsz,hby⟩:=zg6 wn1;refine wpList_append_own_at w hgd s x 51 ho base 59 i _ 6 40 Tryz.underlying51 hi hz hsz hby rfl dC _ _ (edL A) hs hown ⟨g,0,none⟩ ts.length ts.length (edL ts) hx (yk4 ts) (λj u hj=>?_) (zC3 ts) (by unfold maxLen;omega) oM hbase ?_
 ·rw[zb7,Nat.zero_add,cell_of_row _ _ j _ _ _ hT]
  simpa using hj
 intro v' w' k1 k2 k3 k4;exact h v' w' k1 k2
theorem wn2{w':World}{B n:Nat}{lv:Value}{xs:List Value}(ho:w.ownsRow B 59 6 lv n xs)(hg:w.grownBy w' lv.ownBlock){b:Nat}{cs:Array Value}{t:TypeId}(hb:w.heap[b]?=some (.cells cs t (0,0)))(ht:t≠59):w'.heap[b]?=some (.cells cs t (0,0)):=by
 refine(hg.block b (za2 hb) (λe=>?_)).trans hb;rcases ho.2 with ⟨rfl,_⟩ | ⟨g,cap,cur,rfl,_,hgg,_⟩
 ·cases e
 have e':b=g:=Option.some.inj e;subst e';have h2:=hgg.symm.trans hb
 injection h2 with h2
 injection h2 with _ h3 _
 exact ht h3.symm
theorem yk6{E:EP}{w3 w8:World}{es:List Ed}{lv:Value}{g1:Nat}{v:Value}(e1 e2:Ed)(hE:wl5 E)(H3:EB E w3 es)(hl:w3.heap[E.bl]?=some (.cells #[lv] 51 (0,0)))(ho:w3.ownsRow E.B 59 6 lv es.length (edL es))(hk:Ok w3 w8)(hg:w3.heap.size<=g1)(W:World)(hW:W=(w8.setCell (aD g1 1) v).alloc (.cells #[nI e1.from',nI e1.to',nI e1.op,nI e1.place,.bool e1.sense,.bool e1.loop,nI e2.from',nI e2.to',nI e2.op,nI e2.place,.bool e2.sense,.bool e2.loop] 59)) :
  W.ownsRow E.B 59 6 lv es.length (edL es)/\W.heap[w8.heap.size]?=some (.cells (edL [e1,e2]).toArray 59 (0,0))/\E.B<=W.heap.size /\
  ∀v9 w9,w9.ownsRow E.B 59 6 v9 (es.length+2) (edL es++edL [e1,e2])->W.grownBy w9 lv.ownBlock->EB E (w9.setCell (aD E.bl 0) v9) (es++[e1,e2])/\Below E.B w3 (w9.setCell (aD E.bl 0) v9)/\w9.heap[E.bl]?=some (.cells #[lv] 51 (0,0))/\w9.heap[E.bs]?=some (.cells #[.func (.func 94) #[] #[ptr E.bt,ptr E.bb,ptr E.bc,ptr E.bl,ptr E.bp]] 179 (0,0)):=by
 have hkW:Ok w3 W:=by rw[hW];exact(hk.set (p:=⟨g1,1,none⟩) hg _).alloc _
 have hBl:=hE.lo.2.2.1;have hlt:=za2 hl;have h1:=za1 ho hkW;have HW:=H3.ok hkW;have hlW:=hkW.row' hl;refine⟨h1,?_,Nat.le_trans hBl (Nat.le_of_lt (za2 hlW)),λv9 w9 k1 k2=>?_⟩
 ·rw[hW];exact heap_at _ _ _ (by simp[World.setCell])
 have hx:=EB.more (es2:=[e1,e2]) HW hE hlW h1 k2 k1;exact⟨hx.1,(Below.mono hkW oM).trans hx.2,wn2 h1 k2 hlW dC,wn2 h1 k2 HW.s dC⟩
end
section
open Go.RowKit
set_option maxHeartbeats 4000000 in
theorem zX1(E:EP)(hE:wl5 E)(hT:wl1 E.ns)(m:Nat)(hS:∀k,k<m->we6 E k)(w:World)(es:List Ed)(p next:Nat)(h:EB E w es)(hp:p<E.ns.length)(hk:kdA E.ns p=7\/kdA E.ns p=8)(hn:next<=1000)(hl:es.length+2*(AB E.ns p-p)<=100000)(hm:E.ns.length+2-p<=m) :
  Calls Tryz.prog 92 #[nI (p:Nat),nI (next:Nat),ptr E.bt,ptr E.bp,ptr E.bb,ptr E.bl,ptr E.bs] w (λe w'=>e=.returned (.tuple #[])/\∃l,EB E w' (es++l)/\Below E.B w w'/\l.length<=2*(AB E.ns p-p)/\∀f,E.ns.length+2-p<=f+1->chE E.ns p next++(stE E.ns f (AB E.ns (p+1)+1) (AB E.ns (AB E.ns (p+1))) (if kdA E.ns p=8 then ptF E.ns p else next)++stE E.ns f (AB E.ns (AB E.ns (p+1))+1) (AB E.ns p) next)=l):=by
 unfold ptr;have HL:=hE.len;obtain⟨a,ha⟩:=qq (AB E.ns (p+1));obtain⟨s,hs⟩:=qq (AB E.ns a);obtain⟨en,hen⟩:=qq (AB E.ns p);have hpe:=ze6 hp;have hae:a<en:=by rw[ha,hen];exact hT p hp hk
 have hpa:p+1<a:=by rw[ha];unfold AB;omega
 have hse:s<=en:=by rw[hs,hen];exact zN5 (by omega) (by rw[<-hen];exact hae)
 have hsa:a<s:=by rw[hs];unfold AB;omega
 have hel:en<=E.ns.length:=by rw[hen];exact hpe.2
 have HEQ:Hi (a=AB E.ns (p+1)/\s=AB E.ns a/\en=AB E.ns p):=⟨ha,hs,hen⟩;have HIN1:Hi (∀q,a+1<=q->q<s->AB E.ns q<=s):=λq h1 h2=>by rw[hs];exact zN5 (by omega) (by rw[<-hs];exact h2)
 have HIN2:Hi (∀q,s+1<=q->q<en->AB E.ns q<=en):=λq h1 h2=>by rw[hen];exact zN5 (by omega) (by rw[<-hen];exact h2)
 rw[<-ha,<-hs,<-hen];obtain⟨bh,hbh⟩:=qq ((if kdA E.ns p=8 then ptF E.ns p else next));rw[<-hbh];have HBH:Hi (bh=(if kdA E.ns p=8 then ptF E.ns p else next)):=hbh;clear hbh;rw[<-hen]at hl;have H:=hid h;have HB:Hi (p+1<a/\a<s/\s<=en/\en<=E.ns.length/\E.ns.length<=1000/\next<=1000):=⟨hpa,hsa,hse,hel,HL,hn⟩;have HM:Hi (E.ns.length+2-p<=m/\es.length+2*(en-p)<=100000):=⟨hm,hl⟩;have HS:=hid hS;have HK:=hid hk;have HE:=hid hE;obtain⟨np,hnp⟩:∃n,E.ns[p]?=some n:=⟨_,gG_ hp⟩;have HNP:=hid hnp;have HPL:=hid hp;have hpw:IntKind.i64.wrap ((p:Int)+1)=((p+1:Nat):Int):=zb3 oM;have haw:IntKind.i64.wrap ((a:Int)+1)=((a+1:Nat):Int):=zb3 oM;have hsw:IntKind.i64.wrap ((s:Int)+1)=((s+1:Nat):Int):=zb3 oM;obtain⟨_,vo,vc,hv,_⟩:=h.nd;have HV:=hid hv;clear h hp hk hn hl hm hS hE hT ha hs hen hpe hpa hsa hse hel hnp HL hae hv;obtain⟨c0,-,-,-,-⟩:=H.o.cs;have l0:=za2 H.o.t;rw[HV.o]at c0;go_enter Tryz.func92,Tryz.ntmps92
 go_wp2_with (first
  |(go_at_call 93;refine mq (zk7 _ E.ns (p+1) _ (by have:=H.o.nd;rw[HV.o]at this;exact this) (by have:=HB.o;omega) (by have:=HB.o;omega)) λw1 hk1=>?_;have H1:=hid (H.o.ok hk1);have HK1:=hid hk1;rw[<-HEQ.o.1];clear hk1)
  | fail)
 obtain⟨c0',-,-,-,-⟩:=H1.o.cs;have l1:=za2 H1.o.t;rw[HV.o]at c0';have k0:w1.drew.cell? (aD E.bt 0)=some (.slice vo E.ns.length vc):=c0'
 go_region_held3 (λw'=>w'.cell? (aD E.bt 0)=some (.slice vo E.ns.length vc))
  (first|(with_reducible exact d0) | (with_reducible exact k0) | go_keep)
  (first
  |(go_at_call_of 93 ((a:Int));refine(Calls.mono (zk7 _ E.ns a _ (by have:=(H1.o.ok ((Ok.refl _).draws 1)).nd;rw[HV.o]at this;exact this) (by have:=HB.o;omega) (by have:=HB.o;omega)) ?_);rintro e w2 ⟨rfl,hk2⟩;have H2:Hi (EB E w2 es):=H1.o.ok (Ok.step (by repeat (first | exact Ok.refl _ | refine Below.drew ?_)) hk2);have HK2:Hi (Ok w w2):=HK1.o.step (Ok.step (by repeat (first | exact Ok.refl _ | refine Below.drew ?_)) hk2);rw[<-HEQ.o.2.1];have d0:=H2.o.cs.1;rw[HV.o]at d0;clear hk2)
  |(go_at_call_of 93 ((p:Int));refine(Calls.mono (zk7 _ E.ns p _ (by have:=H2.o.nd;rw[HV.o]at this;exact this) (by have:=HB.o;omega) (by have:=HB.o;omega)) ?_);rintro e w3 ⟨rfl,hk3⟩;have H3:=hid (H2.o.ok hk3);have HK3:=hid (HK2.o.step hk3);rw[<-HEQ.o.2.2];have d0:=H3.o.cs.1;rw[HV.o]at d0;clear hk3)
  | fail)
 clear c0 c0' k0 l0 l1 d0 H1 H2 HK1 HK2;obtain⟨c0,c1,c2,c3,c4⟩:=H3.o.cs;have l0:=za2 H3.o.t;have l1:=za2 H3.o.p;rw[HV.o]at c0;obtain⟨g,pc,hpv,hgl,hpt⟩:=H3.o.point;rw[hpv]at c1;have HPV:=hid hpv;have r0:=hpt p (Nat.le_of_lt HPL.o);have hpl:(p:Int)<(E.ns.length:Int):=za5 HPL.o;have hpl1:(p:Int)<(E.ns.length:Int)+1:=oM;obtain⟨_,vo',vc',e1,_,_,hN⟩:=H3.o.nd;rw[HV.o]at e1
 injection e1 with e1 e2 e3;clear e2
 subst e1 e3;obtain⟨b,o,rfl,N1⟩:=hN.resolve_left (λe=>by have:=HPL.o;rw[e]at this;simp at this);obtain⟨-,m1,-,-,-,-⟩:=N1.get HNP.o;have lb:=N1.lt;have hkd:kdA E.ns p=np.kind:=by unfold kdA;rw[HNP.o];rfl
 obtain⟨q,hq⟩:=qq (ptF E.ns p);have HQ:Hi (q=ptF E.ns p/\q<=1000):=⟨hq,by have:=zq9 E.ns p;have:=HB.o;omega⟩;rw[<-hq]at r0
 obtain⟨kd,hkn⟩:∃k:Nat,kdA E.ns p=(k:Int)/\(k=7\/k=8):=by
  rcases HK.o with h | h
  ·exact⟨7,h,.inl rfl⟩
  exact⟨8,h,.inr rfl⟩
 rw[<-hkd,hkn.1]at m1;have hk16:kd<16:=oM;have hk16':(kd:Int)<16:=oM;have s0:=H3.o.st.op kd hk16
 have hop:opT.getD kd 0=5:=by rcases hkn.2 with h | h<;>(rw[h];rfl)
 rw[hop]at s0;have lst:=H3.o.st.lt;have HKN:=hid hkn;clear hpt hN N1 hkd hq hkn hop hpv;rcases HKN.o.2 with h7 | h7
 ·subst h7
  go_wp2_with fail
  go_region
  go_wp2_with fail;clear c0 c1 c2 c3 c4 l0 l1 r0 m1 s0 lst lb
  go_cut [15,16] from 55 to 56 (λs15 s16 u=>Hi (∃gy gn:Nat,s15=pA gy 0/\s16=pA gn 0/\(gy≠gn/\w3.heap.size<gy/\w3.heap.size<gn)/\ER u gy ⟨(q:Nat),0,5,(p:Int)+1,false,false⟩/\ER u gn ⟨(q:Nat),0,5,(p:Int)+1,false,false⟩/\Ok w3 u))
  case first =>
   go_region
   ·go_wp2_with fail
    go_meet
    case rel=>exact⟨w3.heap.size+1,w3.heap.size+1+1,rfl,rfl,⟨by omega,by omega,by omega⟩,heap_past _ _ _ sI (heap_at _ _ _ sI),heap_at _ _ _ sI,((((Ok.refl _).alloc _).alloc _).alloc _).draws 2⟩
   go_wp2_with fail
   go_meet
   case rel=>exact⟨w3.heap.size+1+1,w3.heap.size+1,rfl,rfl,⟨by omega,by omega,by omega⟩,heap_at _ _ _ sI,heap_past _ _ _ sI (heap_at _ _ _ sI),((((Ok.refl _).alloc _).alloc _).alloc _).draws 2⟩
  case rest =>
  obtain⟨gy,gn,hs15,hs16,hgg,hry,hrn,hok5⟩:=hcut.o;subst hs15 hs16;obtain⟨w5,hw5⟩:=qq (wc);rw[<-hw5]at hry hrn hok5 ⊢;have HK5:=hid hok5;have H5:=hid (H3.o.ok hok5);have HG:=hid hgg;have hg01:gy≠gn:=hgg.1;have hg10:gn≠gy:=Ne.symm hg01;have e0:=za2 hry;have e1:=za2 hrn;have R0:=hid hry;have R1:=hid hrn;clear hw5 hry hrn hok5 hgg hcut;obtain⟨c0,c1,c2,c3,c4⟩:=H5.o.cs;unfold ptr at c2 c3 c4;have l2:=za2 H5.o.b;have nb0:E.bb≠gy:=by have:=za2 H3.o.b;have:=HG.o;omega
  have nb1:gy≠E.bb:=Ne.symm nb0
  go_wp2_with (first
   |(go_at_call_of 91 ((a:Int));refine Calls.mono (zm6 E _ es (a+1) s next H5.o (λ_=>by have:=HB.o;omega)) ?_;rintro e w6 ⟨rfl,hk6⟩;have HK6:=hid (HK5.o.step hk6);have r6:=hid (R0.o.ok hk6);have s6:=hid (R1.o.ok hk6);obtain⟨x0,x1,x2,x3,x4,x5⟩:=r6.o.cs;have z1:w6.frozen? (aD gy 1)=false:=frozen_of_row _ _ _ _ _ r6.o;have z4:w6.frozen? (aD gy 4)=false:=frozen_of_row _ _ _ _ _ r6.o;have l6:=za2 r6.o;obtain⟨t1,ht1⟩:=qq (bgF E.ns (a+1) s next);rw[<-ht1];have HT1:Hi (t1=bgF E.ns (a+1) s next):=ht1;obtain⟨-,-,d2,-,-⟩:=(H3.o.ok HK6.o).cs;unfold ptr at d2;have l62:=za2 (H3.o.ok HK6.o).b;clear ht1 hk6 c0 c1 c2 c3 c4 l2)
   | fail)
  go_at_call_of 91 ((en:Int))
  obtain⟨w7,hw7⟩:=qq ((w6.setCell ⟨gy,4,none⟩ (Value.bool true)).setCell ⟨gy,1,none⟩ (nI (t1:Nat)));rw[<-hw7];have HK7:Hi (Ok w3 w7):=by(unfold Hi;rw[hw7];exact(HK6.o.set (p:=⟨gy,4,none⟩) (by have:=HG.o;show w3.heap.size<=gy;omega) _).set (p:=⟨gy,1,none⟩) (by have:=HG.o;show w3.heap.size<=gy;omega) _)
  have r7:Hi (ER w7 gy ⟨(q:Nat),(t1:Nat),5,(p:Int)+1,true,false⟩):=by(unfold Hi;rw[hw7];exact(r6.o.sense' true).to _)
  have s7:Hi (ER w7 gn ⟨(q:Nat),0,5,(p:Int)+1,false,false⟩):=by(unfold Hi;rw[hw7];exact(s6.o.past (by first | exact hg01 | exact hg10) _ _).past (by first | exact hg01 | exact hg10) _ _)
  clear hw7 r6 s6 x0 x1 x2 x3 x4 x5 z1 z4 l6 d2 l62;refine Calls.mono (zm6 E _ es (s+1) en next (H3.o.ok HK7.o) (λ_=>by have:=HB.o;omega)) ?_;rintro e w8 ⟨rfl,hk8⟩;have HK8:=hid (HK7.o.step hk8);have r8:=hid (r7.o.ok hk8);have s8:=hid (s7.o.ok hk8);obtain⟨x0,x1,x2,x3,x4,x5⟩:=s8.o.cs;have z1:w8.frozen? (aD gn 1)=false:=frozen_of_row _ _ _ _ _ s8.o;have l8:=za2 s8.o;obtain⟨t2,ht2⟩:=qq (bgF E.ns (s+1) en next);rw[<-ht2];have HT2:Hi (t2=bgF E.ns (s+1) en next):=ht2;clear ht2 hk8 r7 s7;have ll8:=za2 r8.o;obtain⟨y0,y1,y2,y3,y4,y5⟩:=r8.o.cs;have nl0:E.bl≠gn:=by obtain⟨lv,h1,_⟩:=H3.o.l;have:=za2 h1;have:=HG.o;omega
  have nl1:gn≠E.bl:=Ne.symm nl0;obtain⟨lv,hbl,hlo⟩:=H3.o.l;obtain⟨lo,lc,rfl⟩:=za0 hlo;have cl:w8.cell? (aD E.bl 0)=some (.slice lo es.length lc):=(cell_of_row _ _ 0 _ _ _ (HK8.o.row' hbl)).trans sI;have ll:=za2 (HK8.o.row' hbl);have HLO:Hi (w3.heap[E.bl]?=some (.cells #[.slice lo es.length lc] 51 (0,0))/\w3.ownsRow E.B 59 6 (.slice lo es.length lc) es.length (edL es)):=⟨hbl,hlo⟩;have ns0:E.bs≠E.bl:=Ne.symm HE.o.ne.2.2.2.1;have ns1:E.bl≠E.bs:=HE.o.ne.2.2.2.1;clear hbl hlo;obtain⟨WW,hWW⟩:=qq ((w8.setCell ⟨gn,1,none⟩ (nI (t2:Nat))).alloc (.cells #[nI (q:Nat),nI (t1:Nat),nI 5,nI ((p:Int)+1),.bool true,.bool false,nI (q:Nat),nI (t2:Nat),nI 5,nI ((p:Int)+1),.bool false,.bool false] 59));obtain⟨A1,A2,A3,A4⟩:=yk6 ⟨(q:Nat),(t1:Nat),5,(p:Int)+1,true,false⟩ ⟨(q:Nat),(t2:Nat),5,(p:Int)+1,false,false⟩ HE.o H3.o HLO.o.1 HLO.o.2 HK8.o (by have:=HG.o;show w3.heap.size<=gn;omega) WW hWW;have HA1:Hi _:=A1;have HA2:Hi _:=A2;have HA3:Hi _:=A3;have HA4:Hi _:=A4;have HWW:Hi _:=hWW;have HBD:Hi (es.length+2<=1000000):=by have:=HM.o;have:=HB.o;unfold Hi;omega
  clear A1 A2 A3 A4 hWW
  go_wp2_with (first
   |(at_builtin;go_loud (rw[<-HWW.o];refine zj8 rfl _ _ rfl E.B _ es (by rfl) HA1.o w8.heap.size [⟨(q:Nat),(t1:Nat),5,(p:Int)+1,true,false⟩,⟨(q:Nat),(t2:Nat),5,(p:Int)+1,false,false⟩] (by rfl) HA2.o HBD.o HA3.o ?_;intro v9 w9 k1 k2;obtain⟨o9,c9,rfl⟩:=za0 k1;obtain⟨D1,D2,D3,D4⟩:=HA4.o _ w9 k1 k2;have M:Hi (EB E (w9.setCell (aD E.bl 0) (.slice o9 (es.length+2) c9)) (es++[⟨(q:Nat),(t1:Nat),5,(p:Int)+1,true,false⟩,⟨(q:Nat),(t2:Nat),5,(p:Int)+1,false,false⟩])/\Below E.B w3 (w9.setCell (aD E.bl 0) (.slice o9 (es.length+2) c9))):=⟨D1,D2⟩;have cl9:w9.cell? (aD E.bl 0)=some (.slice lo es.length lc):=(cell_of_row _ _ 0 _ _ _ D3).trans (by simp);have zl9:w9.frozen? (aD E.bl 0)=false:=frozen_of_row _ _ _ _ _ D3;have ll9:=za2 D3;have ls9:=za2 D4;have cs9:w9.cell? (aD E.bs 0)=some (.func (.func 94) #[] #[ptr E.bt,ptr E.bb,ptr E.bc,ptr E.bl,ptr E.bp]):=(cell_of_row _ _ 0 _ _ _ D4).trans (by simp);unfold ptr at cs9;clear k1 k2 D1 D2 D3 D4 x0 x1 x2 x3 x4 x5 y0 y1 y2 y3 y4 y5 z1 l8 ll8 ll cl))
   | fail)
  obtain⟨w10,hw10⟩:=qq (w9.setCell ⟨E.bl,0,none⟩ (.slice o9 (es.length+2) c9));have M10:Hi (EB E w10 (es++[⟨(q:Nat),(t1:Nat),5,(p:Int)+1,true,false⟩,⟨(q:Nat),(t2:Nat),5,(p:Int)+1,false,false⟩])/\Below E.B w3 w10):=by rw[hw10];exact M.o
  rw[<-hw10];clear hw10 M HA1 HA2 HA3 HA4 HWW cl9 zl9 ll9 ls9 cs9;refine Calls.mono (HS.o (E.ns.length+2-(a+1)) (by have:=HB.o;have:=HM.o;have:=HPL.o;omega) w10 (es++[⟨(q:Nat),(t1:Nat),5,(p:Int)+1,true,false⟩,⟨(q:Nat),(t2:Nat),5,(p:Int)+1,false,false⟩]) (a+1) s next M10.o.1 (λ_=>by have:=HB.o;omega) HIN1.o (by have:=HB.o;omega) (by have:=HB.o;have:=HQ.o;omega) (by have:=HB.o;omega) (by rw[List.length_append];have:=HM.o;have:=HB.o;simp only[List.length_cons,List.length_nil];omega) (Nat.le_refl _)) ?_;rintro e w11 ⟨rfl,j1,h11,b11,n11,s11⟩;have M11:Hi (EB E w11 (es++[⟨(q:Nat),(t1:Nat),5,(p:Int)+1,true,false⟩,⟨(q:Nat),(t2:Nat),5,(p:Int)+1,false,false⟩]++j1)/\Below E.B w10 w11/\j1.length<=2*(s-(a+1))/\∀f,E.ns.length+2-(a+1)<=f->stE E.ns f (a+1) s next=j1):=⟨h11,b11,n11,s11⟩;obtain⟨-,-,-,d3,-⟩:=M11.o.1.cs;unfold ptr at d3;have ls11:=za2 M11.o.1.s;clear h11 b11 n11 s11;go_wp2_with fail;refine Calls.mono (HS.o (E.ns.length+2-(s+1)) (by have:=HB.o;have:=HM.o;have:=HPL.o;omega) w11 (es++[⟨(q:Nat),(t1:Nat),5,(p:Int)+1,true,false⟩,⟨(q:Nat),(t2:Nat),5,(p:Int)+1,false,false⟩]++j1) (s+1) en next M11.o.1 (λ_=>by have:=HB.o;omega) HIN2.o (by have:=HB.o;omega) (by have:=HB.o;omega) (by have:=HB.o;omega) (by rw[List.length_append,List.length_append];have:=HM.o;have:=HB.o;have:=M11.o.2.2.1;simp only[List.length_cons,List.length_nil];omega) (Nat.le_refl _)) ?_;rintro e w12 ⟨rfl,j2,h12,b12,n12,s12⟩;have M12:Hi (EB E w12 (es++[⟨(q:Nat),(t1:Nat),5,(p:Int)+1,true,false⟩,⟨(q:Nat),(t2:Nat),5,(p:Int)+1,false,false⟩]++j1++j2)/\Below E.B w11 w12/\j2.length<=2*(en-(s+1))/\∀f,E.ns.length+2-(s+1)<=f->stE E.ns f (s+1) en next=j2):=⟨h12,b12,n12,s12⟩;clear h12 b12 n12 s12
  have HCH:Hi ([⟨(q:Nat),(t1:Nat),5,(p:Int)+1,true,false⟩,⟨(q:Nat),(t2:Nat),5,(p:Int)+1,false,false⟩]=chE E.ns p next):=by unfold Hi chE;rw[<-HEQ.o.1,<-HEQ.o.2.1,<-HEQ.o.2.2,HKN.o.1,HT1.o,HT2.o,HQ.o.1];rfl
  go_wp2_with fail
  go_end0
  refine⟨rfl,chE E.ns p next++(j1++j2),?_,?_,?_,?_⟩
  ·have:=M12.o.1
   rw[HCH.o]at this;simpa only[List.append_assoc] using this
  ·exact(((Below.mono HK3.o (by have h1:=HE.o.lo.1;have h2:=za2 H.o.t;omega)).trans M10.o.2).trans M11.o.2.1).trans M12.o.2.1
  ·rw[List.length_append,List.length_append,yk5]
   have:=HB.o;have:=M11.o.2.2.1;have:=M12.o.2.2.1;omega
  intro f hf;have S1:=M11.o.2.2.2 f (by have:=HB.o;omega);have S2:=M12.o.2.2.2 f (by have:=HB.o;omega)
  have HBB:bh=next:=by
   rw[HBH.o,HKN.o.1]
   first | rfl | (rw[HQ.o.1];rfl)
  rw[HBB,S1,S2]
 subst h7;go_wp2_with fail
 go_region
 go_wp2_with fail;clear c0 c1 c2 c3 c4 l0 l1 r0 m1 s0 lst lb
 go_cut [15,16] from 55 to 56 (λs15 s16 u=>Hi (∃gy gn:Nat,s15=pA gy 0/\s16=pA gn 0/\(gy≠gn/\w3.heap.size<gy/\w3.heap.size<gn)/\ER u gy ⟨(q:Nat),0,5,(p:Int)+1,false,true⟩/\ER u gn ⟨(q:Nat),0,5,(p:Int)+1,false,true⟩/\Ok w3 u))
 case first =>
  go_region
  ·go_wp2_with fail
   go_meet
   case rel=>exact⟨w3.heap.size+1,w3.heap.size+1+1,rfl,rfl,⟨by omega,by omega,by omega⟩,heap_past _ _ _ sI (heap_at _ _ _ sI),heap_at _ _ _ sI,((((Ok.refl _).alloc _).alloc _).alloc _).draws 2⟩
  go_wp2_with fail
  go_meet
  case rel=>exact⟨w3.heap.size+1+1,w3.heap.size+1,rfl,rfl,⟨by omega,by omega,by omega⟩,heap_at _ _ _ sI,heap_past _ _ _ sI (heap_at _ _ _ sI),((((Ok.refl _).alloc _).alloc _).alloc _).draws 2⟩
 case rest =>
 obtain⟨gy,gn,hs15,hs16,hgg,hry,hrn,hok5⟩:=hcut.o;subst hs15 hs16;obtain⟨w5,hw5⟩:=qq (wc);rw[<-hw5]at hry hrn hok5 ⊢;have HK5:=hid hok5;have H5:=hid (H3.o.ok hok5);have HG:=hid hgg;have hg01:gy≠gn:=hgg.1;have hg10:gn≠gy:=Ne.symm hg01;have e0:=za2 hry;have e1:=za2 hrn;have R0:=hid hry;have R1:=hid hrn;clear hw5 hry hrn hok5 hgg hcut;obtain⟨c0,c1,c2,c3,c4⟩:=H5.o.cs;unfold ptr at c2 c3 c4;have l2:=za2 H5.o.b;have nb0:E.bb≠gy:=by have:=za2 H3.o.b;have:=HG.o;omega
 have nb1:gy≠E.bb:=Ne.symm nb0
 go_wp2_with (first
  |(go_at_call_of 91 ((a:Int));refine Calls.mono (zm6 E _ es (a+1) s q H5.o (λ_=>by have:=HB.o;omega)) ?_;rintro e w6 ⟨rfl,hk6⟩;have HK6:=hid (HK5.o.step hk6);have r6:=hid (R0.o.ok hk6);have s6:=hid (R1.o.ok hk6);obtain⟨x0,x1,x2,x3,x4,x5⟩:=r6.o.cs;have z1:w6.frozen? (aD gy 1)=false:=frozen_of_row _ _ _ _ _ r6.o;have z4:w6.frozen? (aD gy 4)=false:=frozen_of_row _ _ _ _ _ r6.o;have l6:=za2 r6.o;obtain⟨t1,ht1⟩:=qq (bgF E.ns (a+1) s q);rw[<-ht1];have HT1:Hi (t1=bgF E.ns (a+1) s q):=ht1;obtain⟨-,-,d2,-,-⟩:=(H3.o.ok HK6.o).cs;unfold ptr at d2;have l62:=za2 (H3.o.ok HK6.o).b;clear ht1 hk6 c0 c1 c2 c3 c4 l2)
  | fail)
 go_at_call_of 91 ((en:Int))
 obtain⟨w7,hw7⟩:=qq ((w6.setCell ⟨gy,4,none⟩ (Value.bool true)).setCell ⟨gy,1,none⟩ (nI (t1:Nat)));rw[<-hw7];have HK7:Hi (Ok w3 w7):=by(unfold Hi;rw[hw7];exact(HK6.o.set (p:=⟨gy,4,none⟩) (by have:=HG.o;show w3.heap.size<=gy;omega) _).set (p:=⟨gy,1,none⟩) (by have:=HG.o;show w3.heap.size<=gy;omega) _)
 have r7:Hi (ER w7 gy ⟨(q:Nat),(t1:Nat),5,(p:Int)+1,true,true⟩):=by(unfold Hi;rw[hw7];exact(r6.o.sense' true).to _)
 have s7:Hi (ER w7 gn ⟨(q:Nat),0,5,(p:Int)+1,false,true⟩):=by(unfold Hi;rw[hw7];exact(s6.o.past (by first | exact hg01 | exact hg10) _ _).past (by first | exact hg01 | exact hg10) _ _)
 clear hw7 r6 s6 x0 x1 x2 x3 x4 x5 z1 z4 l6 d2 l62;refine Calls.mono (zm6 E _ es (s+1) en next (H3.o.ok HK7.o) (λ_=>by have:=HB.o;omega)) ?_;rintro e w8 ⟨rfl,hk8⟩;have HK8:=hid (HK7.o.step hk8);have r8:=hid (r7.o.ok hk8);have s8:=hid (s7.o.ok hk8);obtain⟨x0,x1,x2,x3,x4,x5⟩:=s8.o.cs;have z1:w8.frozen? (aD gn 1)=false:=frozen_of_row _ _ _ _ _ s8.o;have l8:=za2 s8.o;obtain⟨t2,ht2⟩:=qq (bgF E.ns (s+1) en next);rw[<-ht2];have HT2:Hi (t2=bgF E.ns (s+1) en next):=ht2;clear ht2 hk8 r7 s7;have ll8:=za2 r8.o;obtain⟨y0,y1,y2,y3,y4,y5⟩:=r8.o.cs;have nl0:E.bl≠gn:=by obtain⟨lv,h1,_⟩:=H3.o.l;have:=za2 h1;have:=HG.o;omega
 have nl1:gn≠E.bl:=Ne.symm nl0;obtain⟨lv,hbl,hlo⟩:=H3.o.l;obtain⟨lo,lc,rfl⟩:=za0 hlo;have cl:w8.cell? (aD E.bl 0)=some (.slice lo es.length lc):=(cell_of_row _ _ 0 _ _ _ (HK8.o.row' hbl)).trans sI;have ll:=za2 (HK8.o.row' hbl);have HLO:Hi (w3.heap[E.bl]?=some (.cells #[.slice lo es.length lc] 51 (0,0))/\w3.ownsRow E.B 59 6 (.slice lo es.length lc) es.length (edL es)):=⟨hbl,hlo⟩;have ns0:E.bs≠E.bl:=Ne.symm HE.o.ne.2.2.2.1;have ns1:E.bl≠E.bs:=HE.o.ne.2.2.2.1;clear hbl hlo;obtain⟨WW,hWW⟩:=qq ((w8.setCell ⟨gn,1,none⟩ (nI (t2:Nat))).alloc (.cells #[nI (q:Nat),nI (t1:Nat),nI 5,nI ((p:Int)+1),.bool true,.bool true,nI (q:Nat),nI (t2:Nat),nI 5,nI ((p:Int)+1),.bool false,.bool true] 59));obtain⟨A1,A2,A3,A4⟩:=yk6 ⟨(q:Nat),(t1:Nat),5,(p:Int)+1,true,true⟩ ⟨(q:Nat),(t2:Nat),5,(p:Int)+1,false,true⟩ HE.o H3.o HLO.o.1 HLO.o.2 HK8.o (by have:=HG.o;show w3.heap.size<=gn;omega) WW hWW;have HA1:Hi _:=A1;have HA2:Hi _:=A2;have HA3:Hi _:=A3;have HA4:Hi _:=A4;have HWW:Hi _:=hWW;have HBD:Hi (es.length+2<=1000000):=by have:=HM.o;have:=HB.o;unfold Hi;omega
 clear A1 A2 A3 A4 hWW
 go_wp2_with (first
  |(at_builtin;go_loud (rw[<-HWW.o];refine zj8 rfl _ _ rfl E.B _ es (by rfl) HA1.o w8.heap.size [⟨(q:Nat),(t1:Nat),5,(p:Int)+1,true,true⟩,⟨(q:Nat),(t2:Nat),5,(p:Int)+1,false,true⟩] (by rfl) HA2.o HBD.o HA3.o ?_;intro v9 w9 k1 k2;obtain⟨o9,c9,rfl⟩:=za0 k1;obtain⟨D1,D2,D3,D4⟩:=HA4.o _ w9 k1 k2;have M:Hi (EB E (w9.setCell (aD E.bl 0) (.slice o9 (es.length+2) c9)) (es++[⟨(q:Nat),(t1:Nat),5,(p:Int)+1,true,true⟩,⟨(q:Nat),(t2:Nat),5,(p:Int)+1,false,true⟩])/\Below E.B w3 (w9.setCell (aD E.bl 0) (.slice o9 (es.length+2) c9))):=⟨D1,D2⟩;have cl9:w9.cell? (aD E.bl 0)=some (.slice lo es.length lc):=(cell_of_row _ _ 0 _ _ _ D3).trans (by simp);have zl9:w9.frozen? (aD E.bl 0)=false:=frozen_of_row _ _ _ _ _ D3;have ll9:=za2 D3;have ls9:=za2 D4;have cs9:w9.cell? (aD E.bs 0)=some (.func (.func 94) #[] #[ptr E.bt,ptr E.bb,ptr E.bc,ptr E.bl,ptr E.bp]):=(cell_of_row _ _ 0 _ _ _ D4).trans (by simp);unfold ptr at cs9;clear k1 k2 D1 D2 D3 D4 x0 x1 x2 x3 x4 x5 y0 y1 y2 y3 y4 y5 z1 l8 ll8 ll cl))
  | fail)
 obtain⟨w10,hw10⟩:=qq (w9.setCell ⟨E.bl,0,none⟩ (.slice o9 (es.length+2) c9));have M10:Hi (EB E w10 (es++[⟨(q:Nat),(t1:Nat),5,(p:Int)+1,true,true⟩,⟨(q:Nat),(t2:Nat),5,(p:Int)+1,false,true⟩])/\Below E.B w3 w10):=by rw[hw10];exact M.o
 rw[<-hw10];clear hw10 M HA1 HA2 HA3 HA4 HWW cl9 zl9 ll9 ls9 cs9;refine Calls.mono (HS.o (E.ns.length+2-(a+1)) (by have:=HB.o;have:=HM.o;have:=HPL.o;omega) w10 (es++[⟨(q:Nat),(t1:Nat),5,(p:Int)+1,true,true⟩,⟨(q:Nat),(t2:Nat),5,(p:Int)+1,false,true⟩]) (a+1) s q M10.o.1 (λ_=>by have:=HB.o;omega) HIN1.o (by have:=HB.o;omega) (by have:=HB.o;have:=HQ.o;omega) (by have:=HB.o;omega) (by rw[List.length_append];have:=HM.o;have:=HB.o;simp only[List.length_cons,List.length_nil];omega) (Nat.le_refl _)) ?_;rintro e w11 ⟨rfl,j1,h11,b11,n11,s11⟩;have M11:Hi (EB E w11 (es++[⟨(q:Nat),(t1:Nat),5,(p:Int)+1,true,true⟩,⟨(q:Nat),(t2:Nat),5,(p:Int)+1,false,true⟩]++j1)/\Below E.B w10 w11/\j1.length<=2*(s-(a+1))/\∀f,E.ns.length+2-(a+1)<=f->stE E.ns f (a+1) s q=j1):=⟨h11,b11,n11,s11⟩;obtain⟨-,-,-,d3,-⟩:=M11.o.1.cs;unfold ptr at d3;have ls11:=za2 M11.o.1.s;clear h11 b11 n11 s11;go_wp2_with fail;refine Calls.mono (HS.o (E.ns.length+2-(s+1)) (by have:=HB.o;have:=HM.o;have:=HPL.o;omega) w11 (es++[⟨(q:Nat),(t1:Nat),5,(p:Int)+1,true,true⟩,⟨(q:Nat),(t2:Nat),5,(p:Int)+1,false,true⟩]++j1) (s+1) en next M11.o.1 (λ_=>by have:=HB.o;omega) HIN2.o (by have:=HB.o;omega) (by have:=HB.o;omega) (by have:=HB.o;omega) (by rw[List.length_append,List.length_append];have:=HM.o;have:=HB.o;have:=M11.o.2.2.1;simp only[List.length_cons,List.length_nil];omega) (Nat.le_refl _)) ?_;rintro e w12 ⟨rfl,j2,h12,b12,n12,s12⟩;have M12:Hi (EB E w12 (es++[⟨(q:Nat),(t1:Nat),5,(p:Int)+1,true,true⟩,⟨(q:Nat),(t2:Nat),5,(p:Int)+1,false,true⟩]++j1++j2)/\Below E.B w11 w12/\j2.length<=2*(en-(s+1))/\∀f,E.ns.length+2-(s+1)<=f->stE E.ns f (s+1) en next=j2):=⟨h12,b12,n12,s12⟩;clear h12 b12 n12 s12
 have HCH:Hi ([⟨(q:Nat),(t1:Nat),5,(p:Int)+1,true,true⟩,⟨(q:Nat),(t2:Nat),5,(p:Int)+1,false,true⟩]=chE E.ns p next):=by unfold Hi chE;rw[<-HEQ.o.1,<-HEQ.o.2.1,<-HEQ.o.2.2,HKN.o.1,HT1.o,HT2.o,HQ.o.1];rfl
 go_wp2_with fail
 go_end0
 refine⟨rfl,chE E.ns p next++(j1++j2),?_,?_,?_,?_⟩
 ·have:=M12.o.1
  rw[HCH.o]at this;simpa only[List.append_assoc] using this
 ·exact(((Below.mono HK3.o (by have h1:=HE.o.lo.1;have h2:=za2 H.o.t;omega)).trans M10.o.2).trans M11.o.2.1).trans M12.o.2.1
 ·rw[List.length_append,List.length_append,yk5]
  have:=HB.o;have:=M11.o.2.2.1;have:=M12.o.2.2.1;omega
 intro f hf;have S1:=M11.o.2.2.2 f (by have:=HB.o;omega);have S2:=M12.o.2.2.2 f (by have:=HB.o;omega)
 have HBB:bh=q:=by
  rw[HBH.o,HKN.o.1]
  first | rfl | (rw[HQ.o.1];rfl)
 rw[HBB,S1,S2]
end
end Go.Proofs.YtpongdpnbclchaaGreatDoor
