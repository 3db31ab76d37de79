import Derived.Deep.CutRange
import Derived.Test.YtenoopfeplalnaaGreatDoorKQe
set_option linter.all false
namespace Go.Proofs.YtenoopfeplalnaaGreatDoor
section
open Go.RowKit
def StretchOK (E:EP) (m:Nat):Prop:=∀ (w:World) (es:List Ed) (p en fol:Nat),EB E w es->(p<en->en<=E.ns.length)->(∀ q,p<=q->q<en->endF E.ns q<=en)->p<=3000->fol<=1000->en<=3000->es.length+2*(en-p)<=100000->E.ns.length+2-p<=m ->
 Calls Tryz.prog 77 #[.int .i64 (p:Nat),.int .i64 (en:Nat),.int .i64 (fol:Nat),ptr E.bt,ptr E.bb,ptr E.bc,ptr E.bl,ptr E.bp] w (fun e w'=>e=.returned (.tuple #[])/\∃ l,EB E w' (es++l)/\Below E.B w w'/\l.length<=2*(en-p)/\∀ f,E.ns.length+2-p<=f->stE E.ns f p en fol=l)
theorem EB.cs {E:EP} {w:World} {es:List Ed} (h:EB E w es):w.cell? ⟨E.bt,0,none⟩=some E.v/\w.cell? ⟨E.bp,0,none⟩=some E.pv/\w.cell? ⟨E.bb,0,none⟩=some (.func (.func 74) #[] #[ptr E.bp])/\w.cell? ⟨E.bs,0,none⟩=some (.func (.func 77) #[] #[ptr E.bt,ptr E.bb,ptr E.bc,ptr E.bl,ptr E.bp])/\w.cell? ⟨E.bc,0,none⟩=some (.func (.func 75) #[] #[ptr E.bt,ptr E.bp,ptr E.bb,ptr E.bl,ptr E.bs]) :=
 ⟨(cell_of_row _ _ 0 _ _ _ h.t).trans (by simp),(cell_of_row _ _ 0 _ _ _ h.p).trans (by simp),(cell_of_row _ _ 0 _ _ _ h.b).trans (by simp),(cell_of_row _ _ 0 _ _ _ h.s).trans (by simp),(cell_of_row _ _ 0 _ _ _ h.c).trans (by simp)⟩
def ER (w:World) (g:Nat) (e:Ed):Prop:=w.heap[g]?=some (.cells #[.int .i64 e.from',.int .i64 e.to',.int .i64 e.op,.int .i64 e.place,.bool e.sense,.bool e.loop] 51 (0,0))
theorem ER.cs {w:World} {g:Nat} {e:Ed} (h:ER w g e):w.cell? ⟨g,0,none⟩=some (.int .i64 e.from')/\w.cell? ⟨g,1,none⟩=some (.int .i64 e.to')/\w.cell? ⟨g,2,none⟩=some (.int .i64 e.op)/\w.cell? ⟨g,3,none⟩=some (.int .i64 e.place)/\w.cell? ⟨g,4,none⟩=some (.bool e.sense)/\w.cell? ⟨g,5,none⟩=some (.bool e.loop) :=
 ⟨(cell_of_row _ _ 0 _ _ _ h).trans (by simp),(cell_of_row _ _ 1 _ _ _ h).trans (by simp),(cell_of_row _ _ 2 _ _ _ h).trans (by simp),(cell_of_row _ _ 3 _ _ _ h).trans (by simp),(cell_of_row _ _ 4 _ _ _ h).trans (by simp),(cell_of_row _ _ 5 _ _ _ h).trans (by simp)⟩
theorem ER.to {w:World} {g:Nat} {e:Ed} (h:ER w g e) (v:Int):ER (w.setCell ⟨g,1,none⟩ (.int .i64 v)) g { e with to':=v }:=by
 have:=heap_setCell_same w g 1 _ _ (.int .i64 v) h
 unfold ER;rw [this];simp
theorem ER.sense' {w:World} {g:Nat} {e:Ed} (h:ER w g e) (v:Bool):ER (w.setCell ⟨g,4,none⟩ (.bool v)) g { e with sense:=v }:=by
 have:=heap_setCell_same w g 4 _ _ (.bool v) h
 unfold ER;rw [this];simp
theorem ER.past {w:World} {g g':Nat} {e:Ed} (h:ER w g e) (hn:g≠g') (i:Nat) (v:Value):ER (w.setCell ⟨g',i,none⟩ v) g e:=(Below.heap_setCell w ⟨g',i,none⟩ v g hn).trans h
theorem ER.ok {w w':World} {g:Nat} {e:Ed} (h:ER w g e) (hk:Ok w w'):ER w' g e:=hk.row' h
theorem ER.draws {w:World} {g:Nat} {e:Ed} (h:ER w g e) (n:Nat):ER (w.drewN n) g e:=h
theorem zB6:∀ (ts:List Ed),∀ u∈edL ts,u.oneCell'=true
 | [],u,h=>by simp [edL] at h
 | e::r,u,h=>by
  have:edL (e::r)=edV e++edL r:=rfl
  rw [this,List.mem_append] at h
  rcases h with h | h
  ·simp only [edV,List.mem_cons,List.not_mem_nil,or_false] at h
   rcases h with rfl | rfl | rfl | rfl | rfl | rfl<;>rfl
  ·exact zB6 r u h
theorem zj6 {w:World} {ops:Array Oper} {rest:List Oper} {op:Oper} {a:Act} {Q:Exit->Act->World->Prop} (hgd:op.guard=none) (s x:Operand)
  (ho:op.op=.call { callee:=.builtin .append,args:=#[s,x],argTypes:=#[44,44] })
  (base:Nat) (sv:Value) (A:List Ed) (hs:a.eval s=sv) (hown:w.ownsRow base 51 6 sv A.length (edL A))
  (g:Nat) (ts:List Ed) (hx:a.eval x=.slice (some ⟨g,0,none⟩) ts.length ts.length) (hT:w.heap[g]?=some (.cells (edL ts).toArray 51 (0,0)))
  (hb:A.length+ts.length<=1000000) (hbase:base<=w.heap.size)
  (h:∀ v' w',w'.ownsRow base 51 6 v' (A.length+ts.length) (edL A++edL ts)->w.grownBy w' sv.ownBlock->wpList Tryz.prog ops Q rest (a.put op.dst v') w'):wpList Tryz.prog ops Q (op::rest) a w:=by
 obtain ⟨i,hi,hz,hsz,hby⟩:=zg8 infEd
 refine wpList_append_own_at w hgd s x 44 ho base 51 i _ 6 40 Tryz.underlying44 hi hz hsz hby rfl (by decide) _ _ (edL A) hs hown ⟨g,0,none⟩ ts.length ts.length (edL ts) hx (yi8 ts) (fun j u hj=>?_) (zB6 ts) (by unfold maxLen;omega) (by omega) hbase ?_
 ·rw [zc0,Nat.zero_add,cell_of_row _ _ j _ _ _ hT]
  simpa using hj
 ·intro v' w' k1 k2 k3 k4
  exact h v' w' k1 k2
theorem keepT {w w':World} {B n:Nat} {lv:Value} {xs:List Value} (ho:w.ownsRow B 51 6 lv n xs) (hg:w.grownBy w' lv.ownBlock) {b:Nat} {cs:Array Value} {t:TypeId} (hb:w.heap[b]?=some (.cells cs t (0,0))) (ht:t≠51):w'.heap[b]?=some (.cells cs t (0,0)):=by
 refine (hg.block b (za2 hb) (fun e=>?_)).trans hb
 rcases ho.2 with ⟨rfl,_⟩ | ⟨g,cap,cur,rfl,_,hgg,_⟩
 ·cases e
 ·have e':b=g:=Option.some.inj e
  subst e'
  have h2:=hgg.symm.trans hb
  injection h2 with h2
  injection h2 with _ h3 _
  exact ht h3.symm
theorem yj0 {E:EP} {w3 w8:World} {es:List Ed} {lv:Value} {g1:Nat} {v:Value} (e1 e2:Ed) (hE:EPok E) (H3:EB E w3 es) (hl:w3.heap[E.bl]?=some (.cells #[lv] 44 (0,0))) (ho:w3.ownsRow E.B 51 6 lv es.length (edL es)) (hk:Ok w3 w8) (hg:w3.heap.size<=g1) (W:World) (hW:W=(w8.setCell ⟨g1,1,none⟩ v).alloc (.cells #[.int .i64 e1.from',.int .i64 e1.to',.int .i64 e1.op,.int .i64 e1.place,.bool e1.sense,.bool e1.loop,.int .i64 e2.from',.int .i64 e2.to',.int .i64 e2.op,.int .i64 e2.place,.bool e2.sense,.bool e2.loop] 51)) :
  W.ownsRow E.B 51 6 lv es.length (edL es)/\W.heap[w8.heap.size]?=some (.cells (edL [e1,e2]).toArray 51 (0,0))/\E.B<=W.heap.size /\
  ∀ v9 w9,w9.ownsRow E.B 51 6 v9 (es.length+2) (edL es++edL [e1,e2])->W.grownBy w9 lv.ownBlock->EB E (w9.setCell ⟨E.bl,0,none⟩ v9) (es++[e1,e2])/\Below E.B w3 (w9.setCell ⟨E.bl,0,none⟩ v9)/\w9.heap[E.bl]?=some (.cells #[lv] 44 (0,0))/\w9.heap[E.bs]?=some (.cells #[.func (.func 77) #[] #[ptr E.bt,ptr E.bb,ptr E.bc,ptr E.bl,ptr E.bp]] 171 (0,0)):=by
 have hkW:Ok w3 W:=by rw [hW];exact (hk.set (p:=⟨g1,1,none⟩) hg _).alloc _
 have hBl:=hE.lo.2.2.1
 have hlt:=za2 hl
 have h1:=za1 ho hkW
 have HW:=H3.ok hkW
 have hlW:=hkW.row' hl
 refine ⟨h1,?_,Nat.le_trans hBl (Nat.le_of_lt (za2 hlW)),fun v9 w9 k1 k2=>?_⟩
 ·rw [hW];exact heap_at _ _ _ (by simp [World.setCell])
 ·have hx:=EB.more (es2:=[e1,e2]) HW hE hlW h1 k2 k1
  exact ⟨hx.1,(Below.mono hkW (by omega)).trans hx.2,keepT h1 k2 hlW (by decide),keepT h1 k2 HW.s (by decide)⟩
end
section
open Go.RowKit
set_option maxRecDepth 100000 in
set_option maxHeartbeats 4000000 in
theorem zU9 (E:EP) (hE:EPok E) (hT:TwoIn E.ns) (m:Nat) (hS:∀ k,k<m->StretchOK E k) (w:World) (es:List Ed) (p next:Nat) (h:EB E w es) (hp:p<E.ns.length) (hk:kdA E.ns p=7\/kdA E.ns p=8) (hn:next<=1000) (hl:es.length+2*(endF E.ns p-p)<=100000) (hm:E.ns.length+2-p<=m) :
  Calls Tryz.prog 75 #[.int .i64 (p:Nat),.int .i64 (next:Nat),ptr E.bt,ptr E.bp,ptr E.bb,ptr E.bl,ptr E.bs] w (fun e w'=>e=.returned (.tuple #[])/\∃ l,EB E w' (es++l)/\Below E.B w w'/\l.length<=2*(endF E.ns p-p)/\∀ f,E.ns.length+2-p<=f+1->chE E.ns p next++(stE E.ns f (endF E.ns (p+1)+1) (endF E.ns (endF E.ns (p+1))) (if kdA E.ns p=8 then ptF E.ns p else next)++stE E.ns f (endF E.ns (endF E.ns (p+1))+1) (endF E.ns p) next)=l):=by
 unfold ptr
 have HL:=hE.len
 obtain ⟨a,ha⟩:∃ a,a=endF E.ns (p+1):=⟨_,rfl⟩
 obtain ⟨s,hs⟩:∃ s,s=endF E.ns a:=⟨_,rfl⟩
 obtain ⟨en,hen⟩:∃ x,x=endF E.ns p:=⟨_,rfl⟩
 have hpe:=ze6 hp
 have hae:a<en:=by rw [ha,hen];exact hT p hp hk
 have hpa:p+1<a:=by rw [ha];unfold endF;omega
 have hse:s<=en:=by rw [hs,hen];exact zM1 (by omega) (by rw [<-hen];exact hae)
 have hsa:a<s:=by rw [hs];unfold endF;omega
 have hel:en<=E.ns.length:=by rw [hen];exact hpe.2
 have HEQ:Hid (a=endF E.ns (p+1)/\s=endF E.ns a/\en=endF E.ns p):=⟨ha,hs,hen⟩
 have HIN1:Hid (∀ q,a+1<=q->q<s->endF E.ns q<=s):=fun q h1 h2=>by rw [hs];exact zM1 (by omega) (by rw [<-hs];exact h2)
 have HIN2:Hid (∀ q,s+1<=q->q<en->endF E.ns q<=en):=fun q h1 h2=>by rw [hen];exact zM1 (by omega) (by rw [<-hen];exact h2)
 rw [<-ha,<-hs,<-hen]
 obtain ⟨bh,hbh⟩:∃ x,x=(if kdA E.ns p=8 then ptF E.ns p else next):=⟨_,rfl⟩
 rw [<-hbh]
 have HBH:Hid (bh=(if kdA E.ns p=8 then ptF E.ns p else next)):=hbh
 clear hbh
 rw [<-hen] at hl
 have H:=hid h
 have HB:Hid (p+1<a/\a<s/\s<=en/\en<=E.ns.length/\E.ns.length<=1000/\next<=1000):=⟨hpa,hsa,hse,hel,HL,hn⟩
 have HM:Hid (E.ns.length+2-p<=m/\es.length+2*(en-p)<=100000):=⟨hm,hl⟩
 have HS:=hid hS
 have HK:=hid hk
 have HE:=hid hE
 obtain ⟨np,hnp⟩:∃ n,E.ns[p]?=some n:=⟨_,List.getElem?_eq_getElem hp⟩
 have HNP:Hid (E.ns[p]?=some np):=hnp
 have HPL:=hid hp
 have hpw:IntKind.i64.wrap ((p:Int)+1)=((p+1:Nat):Int):=zb6 (by omega)
 have haw:IntKind.i64.wrap ((a:Int)+1)=((a+1:Nat):Int):=zb6 (by omega)
 have hsw:IntKind.i64.wrap ((s:Int)+1)=((s+1:Nat):Int):=zb6 (by omega)
 obtain ⟨_,vo,vc,hv,_⟩:=h.nd
 have HV:Hid (E.v=.slice vo E.ns.length vc):=hv
 clear h hp hk hn hl hm hS hE hT ha hs hen hpe hpa hsa hse hel hnp HL hae hv
 obtain ⟨c0,-,-,-,-⟩:=H.out.cs
 have l0:=za2 H.out.t
 rw [HV.out] at c0
 go_enter Tryz.func75,Tryz.ntmps75
 go_wp2_with (first
  | (go_at_call 76;refine (zk4 _ E.ns (p+1) _ (by have:=H.out.nd;rw [HV.out] at this;exact this) (by have:=HB.out;omega) (by have:=HB.out;omega)).mono ?_;rintro e w1 ⟨rfl,hk1⟩;have H1:Hid (EB E w1 es):=H.out.ok hk1;have HK1:Hid (Ok w w1):=hk1;rw [<-HEQ.out.1];clear hk1)
  | fail)
 obtain ⟨c0',-,-,-,-⟩:=H1.out.cs
 have l1:=za2 H1.out.t
 rw [HV.out] at c0'
 have k0:w1.drew.cell? ⟨E.bt,0,none⟩=some (.slice vo E.ns.length vc):=c0'
 go_region_held3 (fun w'=>w'.cell? ⟨E.bt,0,none⟩=some (.slice vo E.ns.length vc))
  (first | (with_reducible exact d0) | (with_reducible exact k0) | go_keep)
  (first
  | (go_at_call_of 76 ((a:Int));refine (Calls.mono (zk4 _ E.ns a _ (by have:=(H1.out.ok ((Ok.refl _).draws 1)).nd;rw [HV.out] at this;exact this) (by have:=HB.out;omega) (by have:=HB.out;omega)) ?_);rintro e w2 ⟨rfl,hk2⟩;have H2:Hid (EB E w2 es):=H1.out.ok (Ok.step (by repeat (first | exact Ok.refl _ | refine Below.drew ?_)) hk2);have HK2:Hid (Ok w w2):=HK1.out.step (Ok.step (by repeat (first | exact Ok.refl _ | refine Below.drew ?_)) hk2);rw [<-HEQ.out.2.1];have d0:=H2.out.cs.1;rw [HV.out] at d0;clear hk2)
  | (go_at_call_of 76 ((p:Int));refine (Calls.mono (zk4 _ E.ns p _ (by have:=H2.out.nd;rw [HV.out] at this;exact this) (by have:=HB.out;omega) (by have:=HB.out;omega)) ?_);rintro e w3 ⟨rfl,hk3⟩;have H3:Hid (EB E w3 es):=H2.out.ok hk3;have HK3:Hid (Ok w w3):=HK2.out.step hk3;rw [<-HEQ.out.2.2];have d0:=H3.out.cs.1;rw [HV.out] at d0;clear hk3)
  | fail)
 clear c0 c0' k0 l0 l1 d0 H1 H2 HK1 HK2
 obtain ⟨c0,c1,c2,c3,c4⟩:=H3.out.cs
 have l0:=za2 H3.out.t
 have l1:=za2 H3.out.p
 rw [HV.out] at c0
 obtain ⟨g,pc,hpv,hgl,hpt⟩:=H3.out.point
 rw [hpv] at c1
 have HPV:Hid (E.pv=.slice (some ⟨g,0,none⟩) (E.ns.length+1) pc):=hpv
 have r0:=hpt p (Nat.le_of_lt HPL.out)
 have hpl:(p:Int)<(E.ns.length:Int):=za6 HPL.out
 have hpl1:(p:Int)<(E.ns.length:Int)+1:=by omega
 obtain ⟨_,vo',vc',e1,_,_,hN⟩:=H3.out.nd
 rw [HV.out] at e1
 injection e1 with e1 e2 e3;clear e2
 subst e1 e3
 obtain ⟨b,o,rfl,N1⟩:=hN.resolve_left (fun e=>by have:=HPL.out;rw [e] at this;simp at this)
 obtain ⟨-,m1,-,-,-,-⟩:=N1.get HNP.out
 have lb:=N1.lt
 have hkd:kdA E.ns p=np.kind:=by unfold kdA;rw [HNP.out];rfl
 obtain ⟨q,hq⟩:∃ q,q=ptF E.ns p:=⟨_,rfl⟩
 have HQ:Hid (q=ptF E.ns p/\q<=1000):=⟨hq,by have:=zq5 E.ns p;have:=HB.out;omega⟩
 rw [<-hq] at r0
 obtain ⟨kd,hkn⟩:∃ k:Nat,kdA E.ns p=(k:Int)/\(k=7\/k=8):=by
  rcases HK.out with h | h
  ·exact ⟨7,h,.inl rfl⟩
  ·exact ⟨8,h,.inr rfl⟩
 rw [<-hkd,hkn.1] at m1
 have hk16:kd<16:=by omega
 have hk16':(kd:Int)<16:=by omega
 have s0:=H3.out.st.op kd hk16
 have hop:opT.getD kd 0=5:=by rcases hkn.2 with h | h<;>(rw [h];rfl)
 rw [hop] at s0
 have lst:=H3.out.st.lt
 have HKN:Hid (kdA E.ns p=(kd:Int)/\(kd=7\/kd=8)):=hkn
 clear hpt hN N1 hkd hq hkn hop hpv
 rcases HKN.out.2 with h7 | h7
 ·subst h7
  go_wp2_with fail
  go_region
  go_wp2_with fail
  clear c0 c1 c2 c3 c4 l0 l1 r0 m1 s0 lst lb
  go_cut [15,16] from 55 to 56 (fun s15 s16 u=>Hid (∃ gy gn:Nat,s15=.pointer (some ⟨gy,0,none⟩)/\s16=.pointer (some ⟨gn,0,none⟩)/\(gy≠gn/\w3.heap.size<gy/\w3.heap.size<gn)/\ER u gy ⟨(q:Nat),0,5,(p:Int)+1,false,false⟩/\ER u gn ⟨(q:Nat),0,5,(p:Int)+1,false,false⟩/\Ok w3 u))
  case first =>
   go_region
   ·go_wp2_with fail
    go_meet
    case rel=>exact ⟨w3.heap.size+1,w3.heap.size+1+1,rfl,rfl,⟨by omega,by omega,by omega⟩,heap_past _ _ _ (by simp) (heap_at _ _ _ (by simp)),heap_at _ _ _ (by simp),((((Ok.refl _).alloc _).alloc _).alloc _).draws 2⟩
   ·go_wp2_with fail
    go_meet
    case rel=>exact ⟨w3.heap.size+1+1,w3.heap.size+1,rfl,rfl,⟨by omega,by omega,by omega⟩,heap_at _ _ _ (by simp),heap_past _ _ _ (by simp) (heap_at _ _ _ (by simp)),((((Ok.refl _).alloc _).alloc _).alloc _).draws 2⟩
  case rest =>
  obtain ⟨gy,gn,hs15,hs16,hgg,hry,hrn,hok5⟩:=hcut.out
  subst hs15 hs16
  obtain ⟨w5,hw5⟩:∃ x,x=wc:=⟨_,rfl⟩
  rw [<-hw5] at hry hrn hok5 ⊢
  have HK5:Hid (Ok w3 w5):=hok5
  have H5:Hid (EB E w5 es):=H3.out.ok hok5
  have HG:Hid (gy≠gn/\w3.heap.size<gy/\w3.heap.size<gn):=hgg
  have hg01:gy≠gn:=hgg.1
  have hg10:gn≠gy:=Ne.symm hg01
  have e0:=za2 hry
  have e1:=za2 hrn
  have R0:Hid (ER w5 gy ⟨(q:Nat),0,5,(p:Int)+1,false,false⟩):=hry
  have R1:Hid (ER w5 gn ⟨(q:Nat),0,5,(p:Int)+1,false,false⟩):=hrn
  clear hw5 hry hrn hok5 hgg hcut
  obtain ⟨c0,c1,c2,c3,c4⟩:=H5.out.cs
  unfold ptr at c2 c3 c4
  have l2:=za2 H5.out.b
  have nb0:E.bb≠gy:=by have:=za2 H3.out.b;have:=HG.out;omega
  have nb1:gy≠E.bb:=Ne.symm nb0
  go_wp2_with (first
   | (go_at_call_of 74 ((a:Int));refine Calls.mono (zm0 E _ es (a+1) s next H5.out (fun _=>by have:=HB.out;omega)) ?_;rintro e w6 ⟨rfl,hk6⟩;have HK6:Hid (Ok w3 w6):=HK5.out.step hk6;have r6:Hid (ER w6 gy ⟨(q:Nat),0,5,(p:Int)+1,false,false⟩):=R0.out.ok hk6;have s6:Hid (ER w6 gn ⟨(q:Nat),0,5,(p:Int)+1,false,false⟩):=R1.out.ok hk6;obtain ⟨x0,x1,x2,x3,x4,x5⟩:=r6.out.cs;have z1:w6.frozen? ⟨gy,1,none⟩=false:=frozen_of_row _ _ _ _ _ r6.out;have z4:w6.frozen? ⟨gy,4,none⟩=false:=frozen_of_row _ _ _ _ _ r6.out;have l6:=za2 r6.out;obtain ⟨t1,ht1⟩:∃ t,t=bgF E.ns (a+1) s next:=⟨_,rfl⟩;rw [<-ht1];have HT1:Hid (t1=bgF E.ns (a+1) s next):=ht1;obtain ⟨-,-,d2,-,-⟩:=(H3.out.ok HK6.out).cs;unfold ptr at d2;have l62:=za2 (H3.out.ok HK6.out).b;clear ht1 hk6 c0 c1 c2 c3 c4 l2)
   | fail)
  go_at_call_of 74 ((en:Int))
  obtain ⟨w7,hw7⟩:∃ x,x=(w6.setCell ⟨gy,4,none⟩ (Value.bool true)).setCell ⟨gy,1,none⟩ (Value.int IntKind.i64 (t1:Nat)):=⟨_,rfl⟩
  rw [<-hw7]
  have HK7:Hid (Ok w3 w7):=by (unfold Hid;rw [hw7];exact (HK6.out.set (p:=⟨gy,4,none⟩) (by have:=HG.out;show w3.heap.size<=gy;omega) _).set (p:=⟨gy,1,none⟩) (by have:=HG.out;show w3.heap.size<=gy;omega) _)
  have r7:Hid (ER w7 gy ⟨(q:Nat),(t1:Nat),5,(p:Int)+1,true,false⟩):=by (unfold Hid;rw [hw7];exact (r6.out.sense' true).to _)
  have s7:Hid (ER w7 gn ⟨(q:Nat),0,5,(p:Int)+1,false,false⟩):=by (unfold Hid;rw [hw7];exact (s6.out.past (by first | exact hg01 | exact hg10) _ _).past (by first | exact hg01 | exact hg10) _ _)
  clear hw7 r6 s6 x0 x1 x2 x3 x4 x5 z1 z4 l6 d2 l62
  refine Calls.mono (zm0 E _ es (s+1) en next (H3.out.ok HK7.out) (fun _=>by have:=HB.out;omega)) ?_
  rintro e w8 ⟨rfl,hk8⟩
  have HK8:Hid (Ok w3 w8):=HK7.out.step hk8
  have r8:Hid (ER w8 gy ⟨(q:Nat),(t1:Nat),5,(p:Int)+1,true,false⟩):=r7.out.ok hk8
  have s8:Hid (ER w8 gn ⟨(q:Nat),0,5,(p:Int)+1,false,false⟩):=s7.out.ok hk8
  obtain ⟨x0,x1,x2,x3,x4,x5⟩:=s8.out.cs
  have z1:w8.frozen? ⟨gn,1,none⟩=false:=frozen_of_row _ _ _ _ _ s8.out
  have l8:=za2 s8.out
  obtain ⟨t2,ht2⟩:∃ t,t=bgF E.ns (s+1) en next:=⟨_,rfl⟩
  rw [<-ht2]
  have HT2:Hid (t2=bgF E.ns (s+1) en next):=ht2
  clear ht2 hk8 r7 s7
  have ll8:=za2 r8.out
  obtain ⟨y0,y1,y2,y3,y4,y5⟩:=r8.out.cs
  have nl0:E.bl≠gn:=by obtain ⟨lv,h1,_⟩:=H3.out.l;have:=za2 h1;have:=HG.out;omega
  have nl1:gn≠E.bl:=Ne.symm nl0
  obtain ⟨lv,hbl,hlo⟩:=H3.out.l
  obtain ⟨lo,lc,rfl⟩:=za0 hlo
  have cl:w8.cell? ⟨E.bl,0,none⟩=some (.slice lo es.length lc):=(cell_of_row _ _ 0 _ _ _ (HK8.out.row' hbl)).trans (by simp)
  have ll:=za2 (HK8.out.row' hbl)
  have HLO:Hid (w3.heap[E.bl]?=some (.cells #[.slice lo es.length lc] 44 (0,0))/\w3.ownsRow E.B 51 6 (.slice lo es.length lc) es.length (edL es)):=⟨hbl,hlo⟩
  have ns0:E.bs≠E.bl:=Ne.symm HE.out.ne.2.2.2.1
  have ns1:E.bl≠E.bs:=HE.out.ne.2.2.2.1
  clear hbl hlo
  obtain ⟨WW,hWW⟩:∃ x,x=(w8.setCell ⟨gn,1,none⟩ (Value.int IntKind.i64 (t2:Nat))).alloc (.cells #[.int .i64 (q:Nat),.int .i64 (t1:Nat),.int .i64 5,.int .i64 ((p:Int)+1),.bool true,.bool false,.int .i64 (q:Nat),.int .i64 (t2:Nat),.int .i64 5,.int .i64 ((p:Int)+1),.bool false,.bool false] 51):=⟨_,rfl⟩
  obtain ⟨A1,A2,A3,A4⟩:=yj0 ⟨(q:Nat),(t1:Nat),5,(p:Int)+1,true,false⟩ ⟨(q:Nat),(t2:Nat),5,(p:Int)+1,false,false⟩ HE.out H3.out HLO.out.1 HLO.out.2 HK8.out (by have:=HG.out;show w3.heap.size<=gn;omega) WW hWW
  have HA1:Hid _:=A1
  have HA2:Hid _:=A2
  have HA3:Hid _:=A3
  have HA4:Hid _:=A4
  have HWW:Hid _:=hWW
  have HBD:Hid (es.length+2<=1000000):=by have:=HM.out;have:=HB.out;unfold Hid;omega
  clear A1 A2 A3 A4 hWW
  go_wp2_with (first
   | (at_builtin;go_loud (rw [<-HWW.out];refine zj6 rfl _ _ rfl E.B _ es (by rfl) HA1.out w8.heap.size [⟨(q:Nat),(t1:Nat),5,(p:Int)+1,true,false⟩,⟨(q:Nat),(t2:Nat),5,(p:Int)+1,false,false⟩] (by rfl) HA2.out HBD.out HA3.out ?_;intro v9 w9 k1 k2;obtain ⟨o9,c9,rfl⟩:=za0 k1;obtain ⟨D1,D2,D3,D4⟩:=HA4.out _ w9 k1 k2;have M:Hid (EB E (w9.setCell ⟨E.bl,0,none⟩ (.slice o9 (es.length+2) c9)) (es++[⟨(q:Nat),(t1:Nat),5,(p:Int)+1,true,false⟩,⟨(q:Nat),(t2:Nat),5,(p:Int)+1,false,false⟩])/\Below E.B w3 (w9.setCell ⟨E.bl,0,none⟩ (.slice o9 (es.length+2) c9))):=⟨D1,D2⟩;have cl9:w9.cell? ⟨E.bl,0,none⟩=some (.slice lo es.length lc):=(cell_of_row _ _ 0 _ _ _ D3).trans (by simp);have zl9:w9.frozen? ⟨E.bl,0,none⟩=false:=frozen_of_row _ _ _ _ _ D3;have ll9:=za2 D3;have ls9:=za2 D4;have cs9:w9.cell? ⟨E.bs,0,none⟩=some (.func (.func 77) #[] #[ptr E.bt,ptr E.bb,ptr E.bc,ptr E.bl,ptr E.bp]):=(cell_of_row _ _ 0 _ _ _ D4).trans (by simp);unfold ptr at cs9;clear k1 k2 D1 D2 D3 D4 x0 x1 x2 x3 x4 x5 y0 y1 y2 y3 y4 y5 z1 l8 ll8 ll cl))
   | fail)
  obtain ⟨w10,hw10⟩:∃ x,x=w9.setCell ⟨E.bl,0,none⟩ (.slice o9 (es.length+2) c9):=⟨_,rfl⟩
  have M10:Hid (EB E w10 (es++[⟨(q:Nat),(t1:Nat),5,(p:Int)+1,true,false⟩,⟨(q:Nat),(t2:Nat),5,(p:Int)+1,false,false⟩])/\Below E.B w3 w10):=by unfold Hid;rw [hw10];exact M.out
  rw [<-hw10]
  clear hw10 M HA1 HA2 HA3 HA4 HWW cl9 zl9 ll9 ls9 cs9
  refine Calls.mono (HS.out (E.ns.length+2-(a+1)) (by have:=HB.out;have:=HM.out;have:=HPL.out;omega) w10 (es++[⟨(q:Nat),(t1:Nat),5,(p:Int)+1,true,false⟩,⟨(q:Nat),(t2:Nat),5,(p:Int)+1,false,false⟩]) (a+1) s next M10.out.1 (fun _=>by have:=HB.out;omega) HIN1.out (by have:=HB.out;omega) (by have:=HB.out;have:=HQ.out;omega) (by have:=HB.out;omega) (by rw [List.length_append];have:=HM.out;have:=HB.out;simp only [List.length_cons,List.length_nil];omega) (Nat.le_refl _)) ?_
  rintro e w11 ⟨rfl,j1,h11,b11,n11,s11⟩
  have M11:Hid (EB E w11 (es++[⟨(q:Nat),(t1:Nat),5,(p:Int)+1,true,false⟩,⟨(q:Nat),(t2:Nat),5,(p:Int)+1,false,false⟩]++j1)/\Below E.B w10 w11/\j1.length<=2*(s-(a+1))/\∀ f,E.ns.length+2-(a+1)<=f->stE E.ns f (a+1) s next=j1):=⟨h11,b11,n11,s11⟩
  obtain ⟨-,-,-,d3,-⟩:=M11.out.1.cs
  unfold ptr at d3
  have ls11:=za2 M11.out.1.s
  clear h11 b11 n11 s11
  go_wp2_with fail
  refine Calls.mono (HS.out (E.ns.length+2-(s+1)) (by have:=HB.out;have:=HM.out;have:=HPL.out;omega) w11 (es++[⟨(q:Nat),(t1:Nat),5,(p:Int)+1,true,false⟩,⟨(q:Nat),(t2:Nat),5,(p:Int)+1,false,false⟩]++j1) (s+1) en next M11.out.1 (fun _=>by have:=HB.out;omega) HIN2.out (by have:=HB.out;omega) (by have:=HB.out;omega) (by have:=HB.out;omega) (by rw [List.length_append,List.length_append];have:=HM.out;have:=HB.out;have:=M11.out.2.2.1;simp only [List.length_cons,List.length_nil];omega) (Nat.le_refl _)) ?_
  rintro e w12 ⟨rfl,j2,h12,b12,n12,s12⟩
  have M12:Hid (EB E w12 (es++[⟨(q:Nat),(t1:Nat),5,(p:Int)+1,true,false⟩,⟨(q:Nat),(t2:Nat),5,(p:Int)+1,false,false⟩]++j1++j2)/\Below E.B w11 w12/\j2.length<=2*(en-(s+1))/\∀ f,E.ns.length+2-(s+1)<=f->stE E.ns f (s+1) en next=j2):=⟨h12,b12,n12,s12⟩
  clear h12 b12 n12 s12
  have HCH:Hid ([⟨(q:Nat),(t1:Nat),5,(p:Int)+1,true,false⟩,⟨(q:Nat),(t2:Nat),5,(p:Int)+1,false,false⟩]=chE E.ns p next):=by
   unfold Hid chE
   rw [<-HEQ.out.1,<-HEQ.out.2.1,<-HEQ.out.2.2,HKN.out.1,HT1.out,HT2.out,HQ.out.1]
   rfl
  go_wp2_with fail
  go_end0
  refine ⟨rfl,chE E.ns p next++(j1++j2),?_,?_,?_,?_⟩
  ·have:=M12.out.1
   rw [HCH.out] at this
   simpa only [List.append_assoc] using this
  ·exact (((Below.mono HK3.out (by have h1:=HE.out.lo.1;have h2:=za2 H.out.t;omega)).trans M10.out.2).trans M11.out.2.1).trans M12.out.2.1
  ·rw [List.length_append,List.length_append,yi9]
   have:=HB.out;have:=M11.out.2.2.1;have:=M12.out.2.2.1
   omega
  ·intro f hf
   have S1:=M11.out.2.2.2 f (by have:=HB.out;omega)
   have S2:=M12.out.2.2.2 f (by have:=HB.out;omega)
   have HBB:bh=next:=by
    rw [HBH.out,HKN.out.1]
    first | rfl | (rw [HQ.out.1];rfl)
   rw [HBB,S1,S2]
 ·subst h7
  go_wp2_with fail
  go_region
  go_wp2_with fail
  clear c0 c1 c2 c3 c4 l0 l1 r0 m1 s0 lst lb
  go_cut [15,16] from 55 to 56 (fun s15 s16 u=>Hid (∃ gy gn:Nat,s15=.pointer (some ⟨gy,0,none⟩)/\s16=.pointer (some ⟨gn,0,none⟩)/\(gy≠gn/\w3.heap.size<gy/\w3.heap.size<gn)/\ER u gy ⟨(q:Nat),0,5,(p:Int)+1,false,true⟩/\ER u gn ⟨(q:Nat),0,5,(p:Int)+1,false,true⟩/\Ok w3 u))
  case first =>
   go_region
   ·go_wp2_with fail
    go_meet
    case rel=>exact ⟨w3.heap.size+1,w3.heap.size+1+1,rfl,rfl,⟨by omega,by omega,by omega⟩,heap_past _ _ _ (by simp) (heap_at _ _ _ (by simp)),heap_at _ _ _ (by simp),((((Ok.refl _).alloc _).alloc _).alloc _).draws 2⟩
   ·go_wp2_with fail
    go_meet
    case rel=>exact ⟨w3.heap.size+1+1,w3.heap.size+1,rfl,rfl,⟨by omega,by omega,by omega⟩,heap_at _ _ _ (by simp),heap_past _ _ _ (by simp) (heap_at _ _ _ (by simp)),((((Ok.refl _).alloc _).alloc _).alloc _).draws 2⟩
  case rest =>
  obtain ⟨gy,gn,hs15,hs16,hgg,hry,hrn,hok5⟩:=hcut.out
  subst hs15 hs16
  obtain ⟨w5,hw5⟩:∃ x,x=wc:=⟨_,rfl⟩
  rw [<-hw5] at hry hrn hok5 ⊢
  have HK5:Hid (Ok w3 w5):=hok5
  have H5:Hid (EB E w5 es):=H3.out.ok hok5
  have HG:Hid (gy≠gn/\w3.heap.size<gy/\w3.heap.size<gn):=hgg
  have hg01:gy≠gn:=hgg.1
  have hg10:gn≠gy:=Ne.symm hg01
  have e0:=za2 hry
  have e1:=za2 hrn
  have R0:Hid (ER w5 gy ⟨(q:Nat),0,5,(p:Int)+1,false,true⟩):=hry
  have R1:Hid (ER w5 gn ⟨(q:Nat),0,5,(p:Int)+1,false,true⟩):=hrn
  clear hw5 hry hrn hok5 hgg hcut
  obtain ⟨c0,c1,c2,c3,c4⟩:=H5.out.cs
  unfold ptr at c2 c3 c4
  have l2:=za2 H5.out.b
  have nb0:E.bb≠gy:=by have:=za2 H3.out.b;have:=HG.out;omega
  have nb1:gy≠E.bb:=Ne.symm nb0
  go_wp2_with (first
   | (go_at_call_of 74 ((a:Int));refine Calls.mono (zm0 E _ es (a+1) s q H5.out (fun _=>by have:=HB.out;omega)) ?_;rintro e w6 ⟨rfl,hk6⟩;have HK6:Hid (Ok w3 w6):=HK5.out.step hk6;have r6:Hid (ER w6 gy ⟨(q:Nat),0,5,(p:Int)+1,false,true⟩):=R0.out.ok hk6;have s6:Hid (ER w6 gn ⟨(q:Nat),0,5,(p:Int)+1,false,true⟩):=R1.out.ok hk6;obtain ⟨x0,x1,x2,x3,x4,x5⟩:=r6.out.cs;have z1:w6.frozen? ⟨gy,1,none⟩=false:=frozen_of_row _ _ _ _ _ r6.out;have z4:w6.frozen? ⟨gy,4,none⟩=false:=frozen_of_row _ _ _ _ _ r6.out;have l6:=za2 r6.out;obtain ⟨t1,ht1⟩:∃ t,t=bgF E.ns (a+1) s q:=⟨_,rfl⟩;rw [<-ht1];have HT1:Hid (t1=bgF E.ns (a+1) s q):=ht1;obtain ⟨-,-,d2,-,-⟩:=(H3.out.ok HK6.out).cs;unfold ptr at d2;have l62:=za2 (H3.out.ok HK6.out).b;clear ht1 hk6 c0 c1 c2 c3 c4 l2)
   | fail)
  go_at_call_of 74 ((en:Int))
  obtain ⟨w7,hw7⟩:∃ x,x=(w6.setCell ⟨gy,4,none⟩ (Value.bool true)).setCell ⟨gy,1,none⟩ (Value.int IntKind.i64 (t1:Nat)):=⟨_,rfl⟩
  rw [<-hw7]
  have HK7:Hid (Ok w3 w7):=by (unfold Hid;rw [hw7];exact (HK6.out.set (p:=⟨gy,4,none⟩) (by have:=HG.out;show w3.heap.size<=gy;omega) _).set (p:=⟨gy,1,none⟩) (by have:=HG.out;show w3.heap.size<=gy;omega) _)
  have r7:Hid (ER w7 gy ⟨(q:Nat),(t1:Nat),5,(p:Int)+1,true,true⟩):=by (unfold Hid;rw [hw7];exact (r6.out.sense' true).to _)
  have s7:Hid (ER w7 gn ⟨(q:Nat),0,5,(p:Int)+1,false,true⟩):=by (unfold Hid;rw [hw7];exact (s6.out.past (by first | exact hg01 | exact hg10) _ _).past (by first | exact hg01 | exact hg10) _ _)
  clear hw7 r6 s6 x0 x1 x2 x3 x4 x5 z1 z4 l6 d2 l62
  refine Calls.mono (zm0 E _ es (s+1) en next (H3.out.ok HK7.out) (fun _=>by have:=HB.out;omega)) ?_
  rintro e w8 ⟨rfl,hk8⟩
  have HK8:Hid (Ok w3 w8):=HK7.out.step hk8
  have r8:Hid (ER w8 gy ⟨(q:Nat),(t1:Nat),5,(p:Int)+1,true,true⟩):=r7.out.ok hk8
  have s8:Hid (ER w8 gn ⟨(q:Nat),0,5,(p:Int)+1,false,true⟩):=s7.out.ok hk8
  obtain ⟨x0,x1,x2,x3,x4,x5⟩:=s8.out.cs
  have z1:w8.frozen? ⟨gn,1,none⟩=false:=frozen_of_row _ _ _ _ _ s8.out
  have l8:=za2 s8.out
  obtain ⟨t2,ht2⟩:∃ t,t=bgF E.ns (s+1) en next:=⟨_,rfl⟩
  rw [<-ht2]
  have HT2:Hid (t2=bgF E.ns (s+1) en next):=ht2
  clear ht2 hk8 r7 s7
  have ll8:=za2 r8.out
  obtain ⟨y0,y1,y2,y3,y4,y5⟩:=r8.out.cs
  have nl0:E.bl≠gn:=by obtain ⟨lv,h1,_⟩:=H3.out.l;have:=za2 h1;have:=HG.out;omega
  have nl1:gn≠E.bl:=Ne.symm nl0
  obtain ⟨lv,hbl,hlo⟩:=H3.out.l
  obtain ⟨lo,lc,rfl⟩:=za0 hlo
  have cl:w8.cell? ⟨E.bl,0,none⟩=some (.slice lo es.length lc):=(cell_of_row _ _ 0 _ _ _ (HK8.out.row' hbl)).trans (by simp)
  have ll:=za2 (HK8.out.row' hbl)
  have HLO:Hid (w3.heap[E.bl]?=some (.cells #[.slice lo es.length lc] 44 (0,0))/\w3.ownsRow E.B 51 6 (.slice lo es.length lc) es.length (edL es)):=⟨hbl,hlo⟩
  have ns0:E.bs≠E.bl:=Ne.symm HE.out.ne.2.2.2.1
  have ns1:E.bl≠E.bs:=HE.out.ne.2.2.2.1
  clear hbl hlo
  obtain ⟨WW,hWW⟩:∃ x,x=(w8.setCell ⟨gn,1,none⟩ (Value.int IntKind.i64 (t2:Nat))).alloc (.cells #[.int .i64 (q:Nat),.int .i64 (t1:Nat),.int .i64 5,.int .i64 ((p:Int)+1),.bool true,.bool true,.int .i64 (q:Nat),.int .i64 (t2:Nat),.int .i64 5,.int .i64 ((p:Int)+1),.bool false,.bool true] 51):=⟨_,rfl⟩
  obtain ⟨A1,A2,A3,A4⟩:=yj0 ⟨(q:Nat),(t1:Nat),5,(p:Int)+1,true,true⟩ ⟨(q:Nat),(t2:Nat),5,(p:Int)+1,false,true⟩ HE.out H3.out HLO.out.1 HLO.out.2 HK8.out (by have:=HG.out;show w3.heap.size<=gn;omega) WW hWW
  have HA1:Hid _:=A1
  have HA2:Hid _:=A2
  have HA3:Hid _:=A3
  have HA4:Hid _:=A4
  have HWW:Hid _:=hWW
  have HBD:Hid (es.length+2<=1000000):=by have:=HM.out;have:=HB.out;unfold Hid;omega
  clear A1 A2 A3 A4 hWW
  go_wp2_with (first
   | (at_builtin;go_loud (rw [<-HWW.out];refine zj6 rfl _ _ rfl E.B _ es (by rfl) HA1.out w8.heap.size [⟨(q:Nat),(t1:Nat),5,(p:Int)+1,true,true⟩,⟨(q:Nat),(t2:Nat),5,(p:Int)+1,false,true⟩] (by rfl) HA2.out HBD.out HA3.out ?_;intro v9 w9 k1 k2;obtain ⟨o9,c9,rfl⟩:=za0 k1;obtain ⟨D1,D2,D3,D4⟩:=HA4.out _ w9 k1 k2;have M:Hid (EB E (w9.setCell ⟨E.bl,0,none⟩ (.slice o9 (es.length+2) c9)) (es++[⟨(q:Nat),(t1:Nat),5,(p:Int)+1,true,true⟩,⟨(q:Nat),(t2:Nat),5,(p:Int)+1,false,true⟩])/\Below E.B w3 (w9.setCell ⟨E.bl,0,none⟩ (.slice o9 (es.length+2) c9))):=⟨D1,D2⟩;have cl9:w9.cell? ⟨E.bl,0,none⟩=some (.slice lo es.length lc):=(cell_of_row _ _ 0 _ _ _ D3).trans (by simp);have zl9:w9.frozen? ⟨E.bl,0,none⟩=false:=frozen_of_row _ _ _ _ _ D3;have ll9:=za2 D3;have ls9:=za2 D4;have cs9:w9.cell? ⟨E.bs,0,none⟩=some (.func (.func 77) #[] #[ptr E.bt,ptr E.bb,ptr E.bc,ptr E.bl,ptr E.bp]):=(cell_of_row _ _ 0 _ _ _ D4).trans (by simp);unfold ptr at cs9;clear k1 k2 D1 D2 D3 D4 x0 x1 x2 x3 x4 x5 y0 y1 y2 y3 y4 y5 z1 l8 ll8 ll cl))
   | fail)
  obtain ⟨w10,hw10⟩:∃ x,x=w9.setCell ⟨E.bl,0,none⟩ (.slice o9 (es.length+2) c9):=⟨_,rfl⟩
  have M10:Hid (EB E w10 (es++[⟨(q:Nat),(t1:Nat),5,(p:Int)+1,true,true⟩,⟨(q:Nat),(t2:Nat),5,(p:Int)+1,false,true⟩])/\Below E.B w3 w10):=by unfold Hid;rw [hw10];exact M.out
  rw [<-hw10]
  clear hw10 M HA1 HA2 HA3 HA4 HWW cl9 zl9 ll9 ls9 cs9
  refine Calls.mono (HS.out (E.ns.length+2-(a+1)) (by have:=HB.out;have:=HM.out;have:=HPL.out;omega) w10 (es++[⟨(q:Nat),(t1:Nat),5,(p:Int)+1,true,true⟩,⟨(q:Nat),(t2:Nat),5,(p:Int)+1,false,true⟩]) (a+1) s q M10.out.1 (fun _=>by have:=HB.out;omega) HIN1.out (by have:=HB.out;omega) (by have:=HB.out;have:=HQ.out;omega) (by have:=HB.out;omega) (by rw [List.length_append];have:=HM.out;have:=HB.out;simp only [List.length_cons,List.length_nil];omega) (Nat.le_refl _)) ?_
  rintro e w11 ⟨rfl,j1,h11,b11,n11,s11⟩
  have M11:Hid (EB E w11 (es++[⟨(q:Nat),(t1:Nat),5,(p:Int)+1,true,true⟩,⟨(q:Nat),(t2:Nat),5,(p:Int)+1,false,true⟩]++j1)/\Below E.B w10 w11/\j1.length<=2*(s-(a+1))/\∀ f,E.ns.length+2-(a+1)<=f->stE E.ns f (a+1) s q=j1):=⟨h11,b11,n11,s11⟩
  obtain ⟨-,-,-,d3,-⟩:=M11.out.1.cs
  unfold ptr at d3
  have ls11:=za2 M11.out.1.s
  clear h11 b11 n11 s11
  go_wp2_with fail
  refine Calls.mono (HS.out (E.ns.length+2-(s+1)) (by have:=HB.out;have:=HM.out;have:=HPL.out;omega) w11 (es++[⟨(q:Nat),(t1:Nat),5,(p:Int)+1,true,true⟩,⟨(q:Nat),(t2:Nat),5,(p:Int)+1,false,true⟩]++j1) (s+1) en next M11.out.1 (fun _=>by have:=HB.out;omega) HIN2.out (by have:=HB.out;omega) (by have:=HB.out;omega) (by have:=HB.out;omega) (by rw [List.length_append,List.length_append];have:=HM.out;have:=HB.out;have:=M11.out.2.2.1;simp only [List.length_cons,List.length_nil];omega) (Nat.le_refl _)) ?_
  rintro e w12 ⟨rfl,j2,h12,b12,n12,s12⟩
  have M12:Hid (EB E w12 (es++[⟨(q:Nat),(t1:Nat),5,(p:Int)+1,true,true⟩,⟨(q:Nat),(t2:Nat),5,(p:Int)+1,false,true⟩]++j1++j2)/\Below E.B w11 w12/\j2.length<=2*(en-(s+1))/\∀ f,E.ns.length+2-(s+1)<=f->stE E.ns f (s+1) en next=j2):=⟨h12,b12,n12,s12⟩
  clear h12 b12 n12 s12
  have HCH:Hid ([⟨(q:Nat),(t1:Nat),5,(p:Int)+1,true,true⟩,⟨(q:Nat),(t2:Nat),5,(p:Int)+1,false,true⟩]=chE E.ns p next):=by
   unfold Hid chE
   rw [<-HEQ.out.1,<-HEQ.out.2.1,<-HEQ.out.2.2,HKN.out.1,HT1.out,HT2.out,HQ.out.1]
   rfl
  go_wp2_with fail
  go_end0
  refine ⟨rfl,chE E.ns p next++(j1++j2),?_,?_,?_,?_⟩
  ·have:=M12.out.1
   rw [HCH.out] at this
   simpa only [List.append_assoc] using this
  ·exact (((Below.mono HK3.out (by have h1:=HE.out.lo.1;have h2:=za2 H.out.t;omega)).trans M10.out.2).trans M11.out.2.1).trans M12.out.2.1
  ·rw [List.length_append,List.length_append,yi9]
   have:=HB.out;have:=M11.out.2.2.1;have:=M12.out.2.2.1
   omega
  ·intro f hf
   have S1:=M11.out.2.2.2 f (by have:=HB.out;omega)
   have S2:=M12.out.2.2.2 f (by have:=HB.out;omega)
   have HBB:bh=q:=by
    rw [HBH.out,HKN.out.1]
    first | rfl | (rw [HQ.out.1];rfl)
   rw [HBB,S1,S2]
end
end Go.Proofs.YtenoopfeplalnaaGreatDoor
