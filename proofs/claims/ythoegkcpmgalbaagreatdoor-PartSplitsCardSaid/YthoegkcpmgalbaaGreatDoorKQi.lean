import Derived.Deep.RegionLaw
import Derived.Test.YthoegkcpmgalbaaGreatDoorKPm
import Derived.Test.YthoegkcpmgalbaaGreatDoorKQf
import Derived.Test.YthoegkcpmgalbaaGreatDoorKRc
set_option maxHeartbeats 8000000
set_option linter.all false
set_option maxRecDepth 100000
namespace Go.Proofs.YthoegkcpmgalbaaGreatDoor
open Go.RowKit
variable{en fol g q:Nat}{ns:List Nd}{w:World}
def ptE(ns:List Nd)(f q nx:Nat):List Ed :=
 if kdA ns q=7\/kdA ns q=8 then
  chE ns q nx++(stE ns f (AC ns (q+1)+1) (AC ns (AC ns (q+1))) (if kdA ns q=8 then ptF ns q else nx)++stE ns f (AC ns (AC ns (q+1))+1) (AC ns q) nx)
 else if 2<=kdA ns q/\kdA ns q<=6 then [⟨ptF ns q,nx,kdA ns q-2,q,false,false⟩]
 else []
def yu6{f:Nat}(h:q<en):stE ns (f+1) q en fol=ptE ns f q (bgF ns (AC ns q) en fol)++stE ns f (AC ns q) en fol:=by rw[stE,aG h];rfl
def wa7(ns:List Nd)(p en fol:Nat)(l:List Ed)(q:Nat):Prop:=∀f,ns.length+2-p<=f->∃f',ns.length+2-q<=f'/\stE ns f p en fol=l++stE ns f' q en fol
def wa7.start(ns:List Nd)(p en fol:Nat):wa7 ns p en fol [] p:=λf d=>⟨f,d,rfl⟩
def wa7.fin{p:Nat}{l:List Ed}(h:wa7 ns p en fol l q)(d:¬q<en):∀f,ns.length+2-p<=f->stE ns f p en fol=l:=by intro f o;obtain⟨f',_,e⟩:=h f o;rw[e,zk8 d,bD]
def wa7.step{p:Nat}{l o:List Ed}(h:wa7 ns p en fol l q)(K:q<en)(I:q<ns.length)(G:∀f,ns.length+2-q<=f+1->ptE ns f q (bgF ns (AC ns q) en fol)=o):wa7 ns p en fol (l++o) (AC ns q):=by
 intro f J;obtain⟨f',L,e⟩:=h f J;obtain⟨d,rfl⟩:∃d,f'=d+1:=⟨f'-1,oM⟩;have D:q<AC ns q:=by unfold AC;omega
 refine⟨d,oM,?_⟩;rw[e,yu6 K,G d oM,bN]
def yC4{E:EP}{G W:World}{es:List Ed}{I:Value}(K:Ed)(O:wm5 E)(Z:EB E G es)(R:G.heap[E.bl]?=some (.cells #[I] 57 (0,0)))(ho:G.ownsRow E.B 98 6 I es.length (edL es))(d:Ok G W)(J:Value)(o:World)(k1:o.ownsRow E.B 98 6 J (es.length+1) (edL es++edV K))(L:W.grownBy o I.ownBlock) :
  EB E (o.setCell (aD E.bl 0) J) (es++[K])/\Below E.B G (o.setCell (aD E.bl 0) J)/\o.heap[E.bl]?=some (.cells #[I] 57 (0,0)):=by
 have a2:=O.lo.2.2.1;have a1:=za2 R;have Y:=za1 ho d;have HW:=Z.ok d;have D:=d.row' R;have X:=EB.more (es2:=[K]) HW O D Y L (by rw[yk3];exact k1);exact⟨X.1,(Below.mono d oM).trans X.2,wo5 Y L D dC⟩
def yu7{k:Nat}(h:k<16):((decide (2<=k)&&decide (k<=8))=true/\opT.getD k 0=5/\(k=7\/k=8))\/((decide (2<=k)&&decide (k<=8))=true/\(opT.getD k 0==5)=false/\opT.getD k 0=(k:Int)-2/\2<=k/\k<=6)\/((decide (2<=k)&&decide (k<=8))=false/\opT.getD k 0=0/\(k<2\/8<k)):=by
 have:∀j:Fin 16,((decide (2<=(j:Nat))&&decide ((j:Nat)<=8))=true/\opT.getD j 0=5/\((j:Nat)=7\/(j:Nat)=8))\/((decide (2<=(j:Nat))&&decide ((j:Nat)<=8))=true/\(opT.getD j 0==5)=false/\opT.getD j 0=((j:Nat):Int)-2/\2<=(j:Nat)/\(j:Nat)<=6)\/((decide (2<=(j:Nat))&&decide ((j:Nat)<=8))=false/\opT.getD j 0=0/\((j:Nat)<2\/8<(j:Nat))):=by decide
 exact this ⟨k,h⟩
def zN6(E:EP)(J:wm5 E)(W:wo4 E.ns)(m:Nat):we5 E m:=by
 induction m using Nat.strongRecOn with
 | ind m ih =>
 intro w es p en fol h I D d G o K O;unfold ptr;have H:=hid h;have R:=hid J;have HT:=hid W;have HS:=hid ih;have HB:Hi (p<=3000/\fol<=1000/\en<=3000/\es.length+2*(en-p)<=100000/\E.ns.length+2-p<=m/\E.ns.length<=1000):=⟨d,G,o,K,O,J.len⟩;have c6:=hid I;have g1:=hid D;obtain⟨_,vo,vc,L,_⟩:=h.nd;have HV:=hid L;clear h J W ih I D d G o K O L;go_enter Tryz.func97,Tryz.ntmps97;go_wp2_with fail;go_loopw [11] (λt wr=>∃(q:Nat) (l:List Ed),t=nI (q:Nat)/\p<=q/\(q<=en\/q=p)/\Hi (EB E wr (es++l))/\Hi (Below E.B w wr)/\Hi (l.length<=2*(q-p))/\Hi (wa7 E.ns p en fol l q)) (λt _=>en-(intOf t).toNat)
 case atStart=>exact⟨p,[],rfl,aK _,.inr rfl,by rw[bD];exact H.o,Below.refl _ _,dQ _,wa7.start _ _ _ _⟩
 obtain⟨q,l,rfl,O,g3,HR,a7,HL,a8⟩:=hrel;by_cases W:q<en;rotate_left
 ·have d9:¬(q:Int)<(en:Int):=zb2 W
  go_wp2_with fail
  go_end0
  refine⟨rfl,l,HR.o,a7.o,?_,λf hf=>a8.o.fin W f oM⟩;have:=HL.o;omega
 have d9:(q:Int)<(en:Int):=za5 W;have c8:q<E.ns.length:=oH (c6.o oM)
 obtain⟨Z,o⟩:=qq (AC E.ns q);have d:Hi (Z=AC E.ns q/\q<Z/\Z<=en):=⟨o,by rw[o];unfold AC;omega,by rw[o];exact g1.o q O W⟩;have D:Hi (q<E.ns.length/\en<=E.ns.length/\p<=q/\q<en):=⟨c8,c6.o oM,O,W⟩;obtain⟨Y,G⟩:=qq (bgF E.ns Z en fol);have b0:Hi (Y=bgF E.ns Z en fol/\Y<=1000):=⟨G,by rw[G];exact yE9 (oH HB.o) (oH HB.o)⟩;clear o G;obtain⟨c0,-,J,-,-⟩:=HR.o.cs;rw[HV.o]at c0;unfold ptr at J;have l0:=za2 HR.o.t;have L:=za2 HR.o.b;have K:wr.drew.cell? (aD E.bt 0)=some (.slice vo E.ns.length vc):=c0;have k2:wr.drew.cell? (aD E.bb 0)=some (.func (.func 94) #[] #[pA E.bp 0]):=J;go_wp2_with fail
 go_region_held3 (λw'=>w'.cell? (aD E.bt 0)=some (.slice vo E.ns.length vc)/\w'.cell? (aD E.bb 0)=some (.func (.func 94) #[] #[pA E.bp 0]))
  (first|(with_reducible exact⟨K,k2⟩) | (with_reducible exact⟨d0,o⟩) | go_keep)
  (first
  |(go_at_call 96;refine(Calls.mono (zk7 _ E.ns q _ (by have:=(HR.o.ok ((Ok.refl _).draws 1)).nd;rw[HV.o]at this;exact this) (oH HB.o) (oH HB.o)) ?_);rintro e w2 ⟨rfl,b7⟩;have I:Hi (EB E w2 (es++l)):=HR.o.ok (Ok.step (by repeat (first | exact Ok.refl _ | refine Below.drew ?_)) b7);have G:Hi (Ok wr w2):=Ok.step (by repeat (first | exact Ok.refl _ | refine Below.drew ?_)) b7;rw[<-d.o.1];obtain⟨d0,-,o,-,-⟩:=I.o.cs;rw[HV.o]at d0;unfold ptr at o;clear b7)
  |(go_at_call 94;refine(Calls.mono (zm6 E _ (es++l) Z en fol I.o (λ_=>by have:=D.o;have:=d.o;omega)) ?_);rintro e w3 ⟨rfl,b4⟩;have H3:=hid (I.o.ok b4);have b3:=hid (G.o.step b4);rw[<-b0.o.1];obtain⟨d0,-,o,-,-⟩:=H3.o.cs;rw[HV.o]at d0;unfold ptr at o;clear b4)
  | fail)
 clear c0 J K k2 l0 L d0 o I G;obtain⟨c0,-,-,-,-⟩:=H3.o.cs;rw[HV.o]at c0;have l0:=za2 H3.o.t;obtain⟨np,G⟩:∃n,E.ns[q]?=some n:=⟨_,gG_ D.o.1⟩;have f6:=hid G;obtain⟨d5,c5⟩:=R.o.kind np (mG_ G);obtain⟨kd,K⟩:∃k:Nat,np.kind=(k:Int):=⟨np.kind.toNat,(dU d5).symm⟩;have a4:kd<16:=oM;have d7:(kd:Int)<16:=oM;have b6:Hi (kdA E.ns q=(kd:Int)):=by unfold Hi kdA;rw[G];exact K
 obtain⟨_,h7,h9,e1,_,_,hN⟩:=H3.o.nd;rw[HV.o]at e1
 injection e1 with e1 e2 e3;clear e2
 subst e1 e3;obtain⟨b,o,rfl,N1⟩:=hN.resolve_left (λe=>by have:=D.o.1;rw[e]at this;simp at this);obtain⟨-,m1,-,-,-,-⟩:=N1.get f6.o;rw[K]at m1;have lb:=N1.lt;have h0:(q:Int)<(E.ns.length:Int):=za5 D.o.1;have s0:=H3.o.st.made kd a4;have s1:=H3.o.st.op kd a4;have d6:=H3.o.st.lt;obtain⟨mb,L⟩:=qq ((decide (2<=kd)&&decide (kd<=8)));obtain⟨X,I⟩:=qq (opT.getD kd 0);have J:=yu7 a4;rw[<-L,<-I]at J;rw[<-L]at s0;rw[<-I]at s1;have HO:Hi _:=J;clear hN N1 G K L I J d5 c5 O g3 W c8;rcases HO.o with ⟨a1,b1,a2⟩ | ⟨a1,b1,c9,a2⟩ | ⟨a1,b1,a2⟩
 ·subst a1 b1
  have I:Hi (kdA E.ns q=7\/kdA E.ns q=8):=by unfold Hi;rw[b6.o];omega
  clear a2;obtain⟨-,-,-,-,c4⟩:=H3.o.cs;unfold ptr at c4;have l4:=za2 H3.o.c
  go_wp2_with (first
   |(go_at_call 95;refine(Calls.mono (zX1 E R.o HT.o m HS.o _ (es++l) q Y (H3.o.ok ((Ok.refl _).alloc _)) D.o.1 I.o b0.o.2 (by have J:=HB.o;have K:=HL.o;have h3:=d.o;have h4:=D.o;rw[aA,<-d.o.1];omega) (by have J:=HB.o;have h4:=D.o;omega)) ?_);rintro e wf ⟨rfl,L,W,f2,f3,f4⟩;have G:Hi (EB E wf (es++(l++L))/\Below E.B w wf/\L.length<=2*(Z-q)/\wa7 E.ns p en fol (l++L) (AC E.ns q)):=⟨by rw[<-bN];exact W,a7.o.trans ((Below.mono (b3.o.alloc _) (by have J:=R.o.lo.1;have K:=za2 HR.o.t;omega)).trans f2),by rw[d.o.1];exact f3,a8.o.step D.o.2.2.2 D.o.1 (λf hf=>by unfold ptE;rw[aG I.o,<-d.o.1,<-b0.o.1,d.o.1];exact f4 f oM)⟩;clear W f2 f3 f4 c4 l4 c0 l0 s0 s1 d6 lb m1;obtain⟨d0,-,-,-,-⟩:=G.o.1.cs;rw[HV.o]at d0;have dl:=za2 G.o.1.t)
   |(go_at_call 96;refine mq (zk7 _ E.ns q _ (by have:=G.o.1.nd;rw[HV.o]at this;exact this) (oH R.o.len) (oH HB.o)) λw9 O=>?_;have H9:=hid O;rw[<-d.o.1];clear O)
   | fail)
  go_roundw
  case rel=>exact⟨Z,l++L,rfl,by have J:=d.o;have K:=D.o;omega,.inl d.o.2.2,G.o.1.ok H9.o,G.o.2.1.trans (Below.mono H9.o (by have J:=R.o.lo.1;have K:=za2 G.o.1.t;omega)),by have J:=G.o.2.2.1;have K:=d.o;have h3:=HL.o;have h4:=D.o;unfold Hi;rw[aA];omega,by have:=G.o.2.2.2;rw[<-d.o.1]at this;exact this⟩
  case measure=>have J:=d.o;have K:=D.o;simp only[intOf,aO];omega
 ·subst a1
  have I:Hi (¬(kdA E.ns q=7\/kdA E.ns q=8)/\(2<=kdA E.ns q/\kdA E.ns q<=6)/\X=kdA E.ns q-2):=by unfold Hi;rw[b6.o];exact⟨oM,⟨oM,oM⟩,c9⟩
  clear a2 c9;go_wp2_with fail;obtain⟨gs,W⟩:=qq (w3.heap.size);obtain⟨w4,L⟩:∃x,x=w3.alloc (Obj.cells #[.bool true,nI X] 191):=⟨_,rfl⟩;have c7:Hi (Ok w3 w4):=by rw[L];exact(Ok.refl _).alloc _
  have r4:w4.heap[gs]?=some (.cells #[Value.bool true,nI X] 191 (0,0)):=by rw[L,W];exact za3 _ _
  rw[<-L,<-W];have H4:=hid (H3.o.ok c7.o);have h5:Hi (w3.heap.size<=gs):=by unfold Hi;omega
  clear L W c0 l0 s0 s1 d6 lb m1;have x1:w4.cell? (aD gs 1)=some (nI X):=(cell_of_row _ _ 1 _ _ _ r4).trans sI;have f0:=za2 r4;obtain⟨-,c1,-,-,-⟩:=H4.o.cs;have l1:=za2 H4.o.p;obtain⟨g,pc,d1,h6,d3⟩:=H4.o.point;rw[d1]at c1;have r0:=d3 q (dL D.o.1);obtain⟨qp,b9⟩:=qq (ptF E.ns q);rw[<-b9]at r0;have f9:Hi (qp=ptF E.ns q):=b9;have h8:(q:Int)<(E.ns.length:Int)+1:=oM;obtain⟨lv,L,a9⟩:=H4.o.l;obtain⟨lo,lc,rfl⟩:=za0 a9;have cl:w4.cell? (aD E.bl 0)=some (.slice lo (es++l).length lc):=(cell_of_row _ _ 0 _ _ _ L).trans sI;have ll:=za2 L;have b8:Hi (w4.heap[E.bl]?=some (.cells #[.slice lo (es++l).length lc] 57 (0,0))/\w4.ownsRow E.B 98 6 (.slice lo (es++l).length lc) (es++l).length (edL (es++l))):=⟨L,a9⟩;obtain⟨nn,a6⟩:=qq ((es++l).length);have d4:Hi (nn=(es++l).length/\nn<=100000):=⟨a6,by rw[a6,aA];have J:=HB.o;have K:=HL.o;have h4:=D.o;omega⟩;obtain⟨i0,g8,g7,d8,g0⟩:=zg6 wo3;have g2:Hi (nn+1<=maxLen):=by have:=d4.o.2;unfold Hi maxLen;omega
  have c3:Hi ((nn+1)*40<=140737488355328):=by have:=d4.o.2;unfold Hi;omega
  have b5:Hi (∀W,Ok w4 W->∀v9 w9,w9.ownsRow E.B 98 6 v9 ((es++l).length+1) (edL (es++l)++edV ⟨(qp:Nat),(Y:Nat),X,(q:Nat),false,false⟩)->W.grownBy w9 (Value.slice lo (es++l).length lc).ownBlock->EB E (w9.setCell (aD E.bl 0) v9) ((es++l)++[⟨(qp:Nat),(Y:Nat),X,(q:Nat),false,false⟩])/\Below E.B w4 (w9.setCell (aD E.bl 0) v9)/\w9.heap[E.bl]?=some (.cells #[.slice lo (es++l).length lc] 57 (0,0))):=λW hW v9 w9 k1 k2=>yC4 _ R.o H4.o L a9 hW v9 w9 k1 k2;rw[<-a6]at cl b8 b5;have g5:Hi (E.B<=w4.heap.size):=by have J:=R.o.lo.1;have K:=za2 H4.o.t;unfold Hi;omega
  clear L a9 b9 d3 d1 a6;have f7:Hi (∀u∈edV ⟨(qp:Nat),(Y:Nat),X,(q:Nat),false,false⟩,u.oneCell'=true):=by unfold Hi;intro u L;exact zC3 [_] u (by rw[yk3];exact L)
  go_region_law (refine step_append_lies _ (by rfl) _ _ _ (by rfl) E.B 98 i0 _ 6 40 Tryz.underlying57 g8 g7 d8 g0 rfl (by decide) _ nn (edL (es++l)) (by rfl) (za1 b8.o.2 (by repeat (first | exact Ok.refl _ | refine Ok.alloc ?_ _ | refine Below.drew ?_))) ⟨w4.heap.size,0,none⟩ 1 1 (edV ⟨(qp:Nat),(Y:Nat),X,(q:Nat),false,false⟩) (by rfl) (by rfl) (by intro j u L;exact zA4 (za3 _ _) j u L) f7.o (by decide) g2.o c3.o (by have L:=g5.o;first|(simp;omega) | (simp only[heap_drew,World.alloc];simp;omega)) (w4.heap.size+1) (by simp) ?_;intro gg a5 w5 b2 a3 g6 f5;obtain⟨D1,D2,D3⟩:=b5.o _ (by repeat (first | exact Ok.refl _ | refine Ok.alloc ?_ _ | refine Below.drew ?_)) _ w5 b2 a3;have HD:Hi (EB E (w5.setCell (aD E.bl 0) (.slice (sA gg 0) (nn+1) a5)) ((es++l)++[⟨(qp:Nat),(Y:Nat),X,(q:Nat),false,false⟩])/\Below E.B w4 (w5.setCell (aD E.bl 0) (.slice (sA gg 0) (nn+1) a5))):=⟨D1,D2⟩;have g9:w5.cell? (aD E.bl 0)=some (.slice lo nn lc):=(cell_of_row _ _ 0 _ _ _ D3).trans (by simp);have f8:w5.frozen? (aD E.bl 0)=false:=frozen_of_row _ _ _ _ _ D3;have g4:=za2 D3;clear D1 D2 D3 b2 a3 g6 f5)
  all_goals
   obtain⟨wf,L⟩:=qq (w5.setCell ⟨E.bl,0,none⟩ (.slice (some ⟨gg,0,none⟩) (nn+1) a5));rw[<-L];have G:Hi (EB E wf (es++(l++[⟨(qp:Nat),(Y:Nat),X,(q:Nat),false,false⟩]))/\Below E.B w wf/\([⟨(qp:Nat),(Y:Nat),X,(q:Nat),false,false⟩]:List Ed).length<=2*(Z-q)/\wa7 E.ns p en fol (l++[⟨(qp:Nat),(Y:Nat),X,(q:Nat),false,false⟩]) (AC E.ns q)):=⟨by rw[L,<-bN];exact HD.o.1,by rw[L];exact a7.o.trans ((Below.mono (b3.o.step c7.o) (by have J:=R.o.lo.1;have K:=za2 HR.o.t;omega)).trans HD.o.2),by have:=d.o;simp only[aR,cM];omega,a8.o.step D.o.2.2.2 D.o.1 (λf hf=>by unfold ptE;rw[aC I.o.1,aG I.o.2.1,<-d.o.1,<-b0.o.1,f9.o,I.o.2.2])⟩;clear L HD b5 b8 g9 f8 g4 c1 r0 cl ll x1 f0;obtain⟨d0,-,-,-,-⟩:=G.o.1.cs;rw[HV.o]at d0;have dl:=za2 G.o.1.t
   go_wp2_with (first
    |(go_at_call 96;refine mq (zk7 _ E.ns q _ (by have:=G.o.1.nd;rw[HV.o]at this;exact this) (oH R.o.len) (oH HB.o)) λw9 O=>?_;have H9:=hid O;rw[<-d.o.1];clear O)
    | fail)
   go_roundw
   case rel=>exact⟨Z,l++[(⟨(qp:Nat),(Y:Nat),X,(q:Nat),false,false⟩:Ed)],rfl,by have J:=d.o;have K:=D.o;omega,.inl d.o.2.2,G.o.1.ok H9.o,G.o.2.1.trans (Below.mono H9.o (by have J:=R.o.lo.1;have K:=za2 G.o.1.t;omega)),by have J:=G.o.2.2.1;have K:=d.o;have h3:=HL.o;have h4:=D.o;unfold Hi;rw[aA];omega,by have:=G.o.2.2.2;rw[<-d.o.1]at this;exact this⟩
   case measure=>have J:=d.o;have K:=D.o;simp only[intOf,aO];omega
 subst a1 b1;have I:Hi (¬(kdA E.ns q=7\/kdA E.ns q=8)/\¬(2<=kdA E.ns q/\kdA E.ns q<=6)):=by unfold Hi;rw[b6.o];exact⟨oM,oM⟩
 clear a2;obtain⟨wf,L⟩:∃x,x=w3.alloc (Obj.cells #[.bool false,nI 0] 191):=⟨_,rfl⟩;have W:Hi (Ok wr wf):=by rw[L];exact b3.o.alloc _
 have G:Hi (EB E wf (es++(l++[]))/\Below E.B w wf/\([]:List Ed).length<=2*(Z-q)/\wa7 E.ns p en fol (l++[]) (AC E.ns q)):=⟨by rw[bD];exact HR.o.ok W.o,a7.o.trans (Below.mono W.o (by have J:=R.o.lo.1;have K:=za2 HR.o.t;omega)),dQ _,a8.o.step D.o.2.2.2 D.o.1 (λf hf=>by unfold ptE;rw[aC I.o.1,aC I.o.2])⟩;go_wp2_with fail;rw[<-L];clear L;refine mq (zk7 _ E.ns q _ (by have:=G.o.1.nd;rw[HV.o]at this;exact this) (oH R.o.len) (oH HB.o)) λw9 O=>?_;have H9:=hid O;rw[<-d.o.1];clear O;go_wp2_with fail;go_roundw
 case rel=>exact⟨Z,l++[],rfl,by have J:=d.o;have K:=D.o;omega,.inl d.o.2.2,G.o.1.ok H9.o,G.o.2.1.trans (Below.mono H9.o (by have J:=R.o.lo.1;have K:=za2 G.o.1.t;omega)),by have J:=G.o.2.2.1;have K:=d.o;have h3:=HL.o;have h4:=D.o;unfold Hi;rw[aA];omega,by have:=G.o.2.2.2;rw[<-d.o.1]at this;exact this⟩
 case measure=>have J:=d.o;have K:=D.o;simp only[intOf,aO];omega
def yk7(v pv:Value)(ns:List Nd)(w:World)(h:DF w v ns)(d:w.ownsRow 0 3 1 pv (ns.length+1) (ptL ns))(o:EK w)(hk:∀n∈ns,0<=n.kind/\n.kind<=15)(hl:ns.length<=1000)(D:wo4 ns) :
  Calls Tryz.prog 61 #[v,pv] w λe w'=>∃lv,e=.returned lv/\w'.ownsRow w.heap.size 98 6 lv (elF ns).length (edL (elF ns))/\Ok w w':=by
 have HN:=hid h;have a6:=hid d;have HS:=hid o;have a5:=hid hk;have HT:=hid D;obtain⟨_,vo,vc,rfl,_⟩:=h;obtain⟨g,pc,rfl,_⟩:=d.form oM;have O:=(d.lt g rfl).2
 have a2:w.cell? ⟨g,ns.length,none⟩=some (nI (ptF ns ns.length:Nat)):=by have:=d.cells (g:=g) rfl ns.length _ (zN4 ns (nR_ _));rw[zb7,aL]at this;exact this
 have a4:=λa c w=>run_store Tryz.prog w a (.func (.func 94) #[] c) .plain rfl;have b7:=λa c w=>run_store Tryz.prog w a (.func (.func 95) #[] c) .plain rfl;have a8:=λa c w=>run_store Tryz.prog w a (.func (.func 97) #[] c) .plain rfl;clear d o hk D;go_enter Tryz.func61,Tryz.ntmps61;go_wp2_with fail;obtain⟨b5,h5⟩:=qq (w.heap.size+1+1+1+1+1);obtain⟨b4,h4⟩:=qq (w.heap.size+1+1+1+1);obtain⟨X,h3⟩:=qq (w.heap.size+1+1+1);obtain⟨K,h2⟩:=qq (w.heap.size+1+1);obtain⟨d,h1⟩:=qq (w.heap.size+1);obtain⟨G,h0⟩:=qq (w.heap.size);rw[<-h5,<-h4,<-h3,<-h2,<-h1,<-h0];obtain⟨W,R⟩:=qq ((((((w.alloc (Obj.cells #[.slice vo ns.length vc] 142)).alloc (Obj.cells #[.slice (some ⟨g,0,none⟩) (ns.length+1) pc] 28)).alloc (Obj.cells #[sZ] 57)).alloc (Obj.cells #[Value.func (Fn.func 94) #[] #[Value.pointer (some ⟨d,0,none⟩)]] 193)).alloc (Obj.cells #[Value.func (Fn.func 97) #[] #[Value.pointer (some ⟨G,0,none⟩),Value.pointer (some ⟨X,0,none⟩),Value.pointer (some ⟨b5,0,none⟩),Value.pointer (some ⟨K,0,none⟩),Value.pointer (some ⟨d,0,none⟩)]] 194)).alloc (Obj.cells #[Value.func (Fn.func 95) #[] #[Value.pointer (some ⟨G,0,none⟩),Value.pointer (some ⟨d,0,none⟩),Value.pointer (some ⟨X,0,none⟩),Value.pointer (some ⟨K,0,none⟩),Value.pointer (some ⟨b4,0,none⟩)]] 195));rw[<-R];have D:Hi (Ok w W):=by rw[R];exact((((((Ok.refl w).alloc _).alloc _).alloc _).alloc _).alloc _).alloc _
 have HB:Hi (G=w.heap.size/\d=w.heap.size+1/\K=w.heap.size+2/\X=w.heap.size+3/\b4=w.heap.size+4/\b5=w.heap.size+5):=⟨h0,h1,h2,h3,h4,h5⟩;obtain⟨E,hE⟩:∃E:EP,E=⟨.slice vo ns.length vc,.slice (some ⟨g,0,none⟩) (ns.length+1) pc,ns,G,d,K,X,b4,b5,w.heap.size⟩:=⟨_,rfl⟩
 have J:Hi (EB E W []):=by
  unfold Hi;rw[hE];refine⟨?_,?_,?_,?_,?_,⟨sZ,?_,World.ownsRow_nil _ _ _ _⟩,HN.o.below D.o,za1 a6.o D.o,HS.o.below D.o⟩
  ·rw[R,h0];exact jj
  ·rw[R,h1];exact jj
  ·rw[R,h3];unfold ptr;exact jj
  ·rw[R,h4];unfold ptr;exact jj
  ·rw[R,h5];unfold ptr;exact jj
  rw[R,h2];exact jj
 have a9:Hi (wm5 E):=by
  unfold Hi;rw[hE];refine⟨hl,a5.o,⟨by dsimp only;omega,by dsimp only;omega,by dsimp only;omega,by dsimp only;omega,by dsimp only;omega,by dsimp only;omega⟩,⟨by dsimp only;omega,by dsimp only;omega,by dsimp only;omega,by dsimp only;omega,by dsimp only;omega⟩,λb o n c e I=>?_,λb hb=>?_,HS.o.lt⟩
  ·dsimp only at e I ⊢
   obtain⟨_,ao,Z,e2,_,_,hk⟩:=HN.o;obtain⟨b',o',rfl,L⟩:=hk.resolve_left I;rw[e]at e2
   injection e2 with Y
   injection Y with e4
   injection e4 with e5
   have:=L.lt;omega
  have e5:g=b:=aI hb;dsimp only;omega
 have I:Hi (E.v=.slice vo ns.length vc/\E.pv=.slice (sA g 0) (ns.length+1) pc/\E.ns=ns/\E.bt=G/\E.bp=d/\E.bl=K/\E.bb=X/\E.bs=b4/\E.bc=b5/\E.B=w.heap.size):=by unfold Hi;rw[hE];exact⟨rfl,rfl,rfl,rfl,rfl,rfl,rfl,rfl,rfl,rfl⟩
 obtain⟨c0,c1,-,c3,-⟩:=J.o.cs;have l0:=za2 J.o.t;have l1:=za2 J.o.p;have l4:=za2 J.o.s;obtain⟨e0,e1,e2,Y,e4,e5,e6,e7,e8,e9⟩:=I.o;unfold ptr at c3;rw[e0,Y]at c0;rw[e1,e4]at c1;rw[Y,e4,e5,e6,e7,e8]at c3;rw[Y]at l0;rw[e4]at l1;rw[e7]at l4;have a1:W.cell? ⟨g,ns.length,none⟩=some (nI (ptF ns ns.length:Nat)):=D.o.cell (p:=⟨g,ns.length,none⟩) O a2;have b9:g<W.heap.size:=lL_ O D.o.le;obtain⟨pn,Z⟩:=qq (ptF ns ns.length);have a3:Hi (pn=ptF ns ns.length/\pn<=1000):=⟨Z,by rw[Z];exact aH (zq9 _ _) hl⟩;rw[<-Z]at a1;have k0:W.drew.cell? (aD G 0)=some (.slice vo ns.length vc):=c0;have k1:W.drew.cell? (aD d 0)=some (.slice (sA g 0) (ns.length+1) pc):=c1;have k3:W.drew.cell? (aD b4 0)=some (.func (.func 97) #[] #[Value.pointer (sA G 0),Value.pointer (sA X 0),Value.pointer (sA b5 0),Value.pointer (sA K 0),Value.pointer (sA d 0)]):=c3;have k4:W.drew.cell? ⟨g,ns.length,none⟩=some (nI (pn:Nat)):=a1;have b8:(ns.length:Int)<(ns.length:Int)+1:=oM;have c2:=hid hl
 have a7:Hi (∀_:Unit,Calls Tryz.prog 97 #[nI 0,nI (ns.length:Nat),nI (pn:Nat),pA G 0,pA X 0,pA b5 0,pA K 0,pA d 0] W.drew (λe w'=>e=.returned (.tuple #[])/\∃l,EB E w' ([]++l)/\Below E.B W.drew w'/\l.length<=2*(ns.length-0)/\∀f,ns.length+2-0<=f->stE ns f 0 ns.length pn=l)):=λ_=>by have:=zN6 E a9.o (by rw[e2];exact HT.o) (ns.length+2) W.drew [] 0 ns.length pn (J.o.ok ((Ok.refl _).draws 1)) (λ_=>by rw[e2];exact aK _) (λq _ o=>by rw[e2];exact(ze6 o).2) oM a3.o.2 oM (by simp only[cM];omega) (by rw[e2];omega);unfold ptr at this;rw[e2,Y,e4,e5,e6,e8]at this;exact this
 have b6:Hi (∀(o:World) (L:List Ed),EB E o L->Below E.B W.drew o->o.cell? (aD G 0)=some (.slice vo ns.length vc)/\o.cell? (aD d 0)=some (.slice (sA g 0) (ns.length+1) pc)/\o.cell? (aD b4 0)=some (.func (.func 97) #[] #[Value.pointer (sA G 0),Value.pointer (sA X 0),Value.pointer (sA b5 0),Value.pointer (sA K 0),Value.pointer (sA d 0)])/\o.cell? ⟨g,ns.length,none⟩=some (nI (pn:Nat))):=λo L hh hb=>by obtain⟨c0,c1,-,c3,-⟩:=hh.cs;unfold ptr at c3;rw[e0,Y]at c0;rw[e1,e4]at c1;rw[Y,e4,e5,e6,e7,e8]at c3;exact⟨c0,c1,c3,(hb.cell (p:=⟨g,ns.length,none⟩) (by rw[e9];exact O)).trans k4⟩
 clear a2 O a4 b7 a8 h0 h1 h2 h3 h4 h5 R hE e0 e1 e2 Y e4 e5 e6 e7 e8 e9 Z hl
 go_region_held3 (λw'=>w'.cell? (aD G 0)=some (.slice vo ns.length vc)/\w'.cell? (aD d 0)=some (.slice (sA g 0) (ns.length+1) pc)/\w'.cell? (aD b4 0)=some (.func (.func 97) #[] #[Value.pointer (sA G 0),Value.pointer (sA X 0),Value.pointer (sA b5 0),Value.pointer (sA K 0),Value.pointer (sA d 0)])/\w'.cell? ⟨g,ns.length,none⟩=some (nI (pn:Nat)))
  (first|(with_reducible exact⟨k0,k1,k3,k4⟩) | (with_reducible exact⟨d0,d1,d3,d4⟩) | go_keep)
  (first
  |(go_at_call 97;refine(Calls.mono (a7.o ()) ?_);rintro e o ⟨rfl,L,f1,f2,f3,f4⟩;have Y:Hi (EB E o L/\Below E.B W.drew o/\L=elF ns):=⟨by simpa using f1,f2,by unfold elF;rw[<-a3.o.1];exact(f4 (ns.length+2) oM).symm⟩;clear f1 f2 f3 f4;obtain⟨d0,d1,d3,d4⟩:=b6.o o L Y.o.1 Y.o.2.1)
  | fail)
 obtain⟨lv,O,R⟩:=Y.o.1.l;have cl:o.cell? (aD K 0)=some lv:=by rw[I.o.2.2.2.2.2.1]at O;exact(cell_of_row _ _ 0 _ _ _ O).trans (by simp)
 have ll:K<o.heap.size:=by rw[<-I.o.2.2.2.2.2.1];exact za2 O
 have Z:=hid R;obtain⟨lo,lc,rfl⟩:=za0 R;clear O R;go_wp2_with fail;go_ret;refine⟨_,rfl,?_,?_⟩
 ·have:=Z.o
  rw[Y.o.2.2,I.o.2.2.2.2.2.2.2.2.2]at this;rw[Y.o.2.2];exact this
 have h1:=Y.o.2.1;rw[I.o.2.2.2.2.2.2.2.2.2]at h1;exact(D.o.draws 1).trans h1
def zq4(h0:(AP ns rd0).1=0):(BL ns).1=0:=by
 by_cases c:(BL ns).1=0
 ·exact c
 unfold AP at h0;rw[aC c]at h0;exact absurd h0 c
def zv7{l:Ls}(h:DG ns l=true):(AP ns rd0).1=0:=by unfold DG at h;rw[bM]at h;exact cO h.1
def zy1(h:FX ns):∀n∈ns,0<=n.kind/\n.kind<=15:=by intro n d;obtain⟨i,o,e⟩:=eY.1 d;rw[<-e];exact zi0 (h.shp.fit i o)
def Tryz.infoG:(Tryz.prog.info? 59).map (·.size)=some 9:=by kernel_rfl
def zC4{t:TypeId}{a0 a1 a2 a3 a4 W a6 a7 a8:Value}(h:w.heap[g]?=some (.cells #[a0,a1,a2,a3,a4,W,a6,a7,a8] t (0,0)))(o O G L d J I D K:Value) :
  (((((((((w.setCell (aD g 0) o).setCell (aD g 1) O).setCell (aD g 2) G).setCell (aD g 3) L).setCell (aD g 4) d).setCell (aD g 5) J).setCell (aD g 6) I).setCell (aD g 7) D).setCell (aD g 8) K).heap[g]?=some (.cells #[o,O,G,L,d,J,I,D,K] t (0,0)):=by
 have R:=heap_setCell_same w g 0 _ t o h;have h1:=heap_setCell_same _ g 1 _ t O R;have X:=heap_setCell_same _ g 2 _ t G h1;have h3:=heap_setCell_same _ g 3 _ t L X;have h4:=heap_setCell_same _ g 4 _ t d h3;have Y:=heap_setCell_same _ g 5 _ t J h4;have h6:=heap_setCell_same _ g 6 _ t I Y;have h7:=heap_setCell_same _ g 7 _ t D h6;have Z:=heap_setCell_same _ g 8 _ t K h7;simpa using Z
def zq5{B:Nat}{w0:World}(h:Below B w0 w)(d:B<=g)(J L R I G K o O D:Value):Below B w0 (((((((((w.setCell (aD g 0) J).setCell (aD g 1) L).setCell (aD g 2) R).setCell (aD g 3) I).setCell (aD g 4) G).setCell (aD g 5) K).setCell (aD g 6) o).setCell (aD g 7) O).setCell (aD g 8) D) :=
 ((((((((h.setCell (p:=⟨g,0,none⟩) d J).setCell (p:=⟨g,1,none⟩) d L).setCell (p:=⟨g,2,none⟩) d R).setCell (p:=⟨g,3,none⟩) d I).setCell (p:=⟨g,4,none⟩) d G).setCell (p:=⟨g,5,none⟩) d K).setCell (p:=⟨g,6,none⟩) d o).setCell (p:=⟨g,7,none⟩) d O).setCell (p:=⟨g,8,none⟩) d D
def zC5{B:Nat}{e:TypeId}{s n:Nat}{v:Value}{o:List Value}(h:w.ownsRow B e s v n o)(K:∀b,v.ownBlock=some b->b≠g)(O W Y L I R D X J:Value):(((((((((w.setCell (aD g 0) O).setCell (aD g 1) W).setCell (aD g 2) Y).setCell (aD g 3) L).setCell (aD g 4) I).setCell (aD g 5) R).setCell (aD g 6) D).setCell (aD g 7) X).setCell (aD g 8) J).ownsRow B e s v n o:=by refine zb4 h λb G=>?_;have d:=K b G;exact(Below.heap_setCell _ ⟨g,8,none⟩ _ b d).trans ((Below.heap_setCell _ ⟨g,7,none⟩ _ b d).trans ((Below.heap_setCell _ ⟨g,6,none⟩ _ b d).trans ((Below.heap_setCell _ ⟨g,5,none⟩ _ b d).trans ((Below.heap_setCell _ ⟨g,4,none⟩ _ b d).trans ((Below.heap_setCell _ ⟨g,3,none⟩ _ b d).trans ((Below.heap_setCell _ ⟨g,2,none⟩ _ b d).trans ((Below.heap_setCell _ ⟨g,1,none⟩ _ b d).trans ((Below.heap_setCell _ ⟨g,0,none⟩ _ b d)))))))))
def yu8(v0 v1 v2 v3 v4 v5:Value)(ns:List Nd)(l:Ls)(w:World)(I:BE w)(G:EK w)(h:BV w v0 v1 v2 v3 v4 v5 ns l)(D:DG ns l=true) :
  Calls Tryz.prog 36 #[.agg #[v0,v1,v2,v3,v4,v5]] w λe w'=>∃(u:Nat->Value) (ev:Value),e=.returned (.tuple #[.agg #[u 0,u 1,u 2,u 3,u 4,u 5,nI ((ptF ns ns.length+1:Nat):Int),nI (ptF ns ns.length:Nat),ev],nI 0])/\Ap u/\AG w' w.heap.size u ns (BU (AP ns rd0).2.2)/\w'.ownsRow w.heap.size 98 6 ev (elF ns).length (edL (elF ns))/\Ok w w':=by
 have d:=zv7 D;have HT:Hi (FX ns):=zN8 (zq4 d);have c7:Hi ((AP ns rd0).1=0):=d;have a2:Hi (ns.length<=300):=(zj1 ns d).2;have HG:=hid D;have HP:=hid h;have HR:=hid I;have HS:=hid G;obtain⟨_,ao,cap,e,_⟩:=h.nodes;have HV:Hi (v0=.slice ao ns.length cap):=e;clear d D h I G e;go_enter Tryz.func36,Tryz.ntmps36;go_wp2_with fail;obtain⟨w0,d⟩:=qq ((w.alloc (Obj.cells #[v0,v1,v2,v3,v4,v5] 30)).alloc (Obj.cells #[sZ,sZ,sZ,sZ,sZ,sZ,nI 0,nI 0,sZ] 59));obtain⟨D,G⟩:=qq (w.heap.size+1);obtain⟨b0,I⟩:=qq (w.heap.size);rw[<-d,<-G,<-I];have Y:Hi (Ok w w0):=by rw[d];exact((Ok.refl w).alloc _).alloc _
 have O:Hi (Six w0 b0 v0 v1 v2 v3 v4 v5):=by rw[d,I];exact(Six.new w _ _ _ _ _ _).below ((Ok.refl _).alloc _)
 have K:Hi (w0.heap[D]?=some (.cells #[sZ,sZ,sZ,sZ,sZ,sZ,nI 0,nI 0,sZ] 59 (0,0))):=by rw[d,G];exact heap_at _ _ _ (by simp)
 have HB:Hi (b0=w.heap.size/\D=w.heap.size+1):=⟨I,G⟩;have f2:Hi (w0.heap.size=w.heap.size+2):=by unfold Hi;rw[d];simp
 clear d G I;refine mq (zO9 v0 v1 v2 v3 v4 v5 ns l w0 (HR.o.below Y.o) (HP.o.below Y.o)) λL d=>?_;rw[HG.o];have X:Hi (Ok w L):=Y.o.step d;have J:Hi (Six L b0 v0 v1 v2 v3 v4 v5):=O.o.below d;have I:Hi (L.heap[D]?=some (.cells #[sZ,sZ,sZ,sZ,sZ,sZ,nI 0,nI 0,sZ] 59 (0,0))):=Ok.row' d K.o;clear d K O;obtain⟨z1,Z,c1,c2,c3,c4,c5⟩:=J.o.pc;rw[HV.o]at Z;go_wp2_with fail;refine(zN3 _ ns L (HR.o.below X.o) (by have:=(HP.o.below X.o).nodes;rw[HV.o]at this;exact this) c7.o).mono ?_;rintro e w2 ⟨u,er,rfl,K,d,G⟩;have b9:Hi (Ap u):=d;clear d;have c6:Hi (Ok w w2):=X.o.step G;have a9:Hi (Six w2 b0 v0 v1 v2 v3 v4 v5):=J.o.below G;have R:Hi (w2.heap[D]?=some (.cells #[sZ,sZ,sZ,sZ,sZ,sZ,nI 0,nI 0,sZ] 59 (0,0))):=Ok.row' G I.o;have d:Hi (AG w2 L.heap.size u ns (BU (AP ns rd0).2.2)):=K;have d7:Hi (w.heap.size+2<=L.heap.size):=by have W:=za2 I.o;have O:=HB.o;unfold Hi;omega
 clear G K z1 Z c1 c2 c3 c4 c5 J I;obtain⟨o0,p0,e0⟩:=za0 (d.o 0 dC);obtain⟨o1,p1,e1⟩:=za0 (d.o 1 dC);obtain⟨o2,p2,e2⟩:=za0 (d.o 2 dC);obtain⟨o3,p3,e3⟩:=za0 (d.o 3 dC);obtain⟨o4,p4,e4⟩:=za0 (d.o 4 dC);obtain⟨o5,p5,e5⟩:=za0 (d.o 5 dC);obtain⟨m,hm⟩:=qq (BU (AP ns rd0).2.2);have HM:Hi (m=BU (AP ns rd0).2.2):=hm;rw[<-hm]at d e0 e1 e2 e3 e4 e5;have HE:Hi (u 0=.slice o0 (nOf ns.length m 0) p0/\u 1=.slice o1 (nOf ns.length m 1) p1/\u 2=.slice o2 (nOf ns.length m 2) p2/\u 3=.slice o3 (nOf ns.length m 3) p3/\u 4=.slice o4 (nOf ns.length m 4) p4/\u 5=.slice o5 (nOf ns.length m 5) p5):=⟨e0,e1,e2,e3,e4,e5⟩;rw[e0,e1,e2,e3,e4,e5];obtain⟨n0,J⟩:=qq (nOf ns.length m 0);obtain⟨n1,K⟩:=qq (nOf ns.length m 1);obtain⟨n2,I⟩:=qq (nOf ns.length m 2);obtain⟨n3,G⟩:=qq (nOf ns.length m 3);obtain⟨n4,W⟩:=qq (nOf ns.length m 4);obtain⟨n5,O⟩:=qq (nOf ns.length m 5);rw[<-J,<-K,<-I,<-G,<-W,<-O]at HE ⊢;clear e0 e1 e2 e3 e4 e5 hm J K I G W O;obtain⟨z1,Z,c1,c2,c3,c4,c5⟩:=a9.o.pc;rw[HV.o]at Z;go_wp2_with fail;obtain⟨w3,J⟩:=qq (w2.alloc (Obj.cells #[.slice o0 n0 p0,.slice o1 n1 p1,.slice o2 n2 p2,.slice o3 n3 p3,.slice o4 n4 p4,.slice o5 n5 p5] 30));obtain⟨G,K⟩:=qq (w2.heap.size);rw[<-J,<-K];have I:Ok w2 w3:=by rw[J];exact(Ok.refl _).alloc _
 have W:Hi (Ok w w3):=c6.o.step I;have a6:Hi (Six w3 G (.slice o0 n0 p0) (.slice o1 n1 p1) (.slice o2 n2 p2) (.slice o3 n3 p3) (.slice o4 n4 p4) (.slice o5 n5 p5)):=by rw[J,K];exact Six.new _ _ _ _ _ _ _
 have b3:Hi (w3.heap[D]?=some (.cells #[sZ,sZ,sZ,sZ,sZ,sZ,nI 0,nI 0,sZ] 59 (0,0))):=Ok.row' I R.o;have a7:Hi (AG w3 L.heap.size u ns m):=λk O=>za1 (d.o k O) I;have b6:Hi (D<G):=by have:=za2 R.o;unfold Hi;omega
 clear J K I a9 R d z1 Z c1 c2 c3 c4 c5;refine(zX0 _ ns w3 (by have:=(HP.o.below W.o).nodes;rw[HV.o]at this;exact this) (oH a2.o) (zy1 HT.o) (HS.o.below W.o)).mono ?_;rintro e J ⟨pv,rfl,I,d⟩;have Z:Hi (Ok w J):=W.o.step d;have a4:Hi (Six J G (.slice o0 n0 p0) (.slice o1 n1 p1) (.slice o2 n2 p2) (.slice o3 n3 p3) (.slice o4 n4 p4) (.slice o5 n5 p5)):=a6.o.below d;have a5:Hi (J.heap[D]?=some (.cells #[sZ,sZ,sZ,sZ,sZ,sZ,nI 0,nI 0,sZ] 59 (0,0))):=Ok.row' d b3.o;have c9:Hi (AG J L.heap.size u ns m):=λk O=>za1 (a7.o k O) d;have c8:Hi (J.ownsRow 0 3 1 pv (ns.length+1) (ptL ns)):=za7 I (zL_ _);obtain⟨g,pc,rfl,_⟩:=I.form oM;have d8:=(I.lt g rfl).2;obtain⟨pn,K⟩:=qq (ptF ns ns.length)
 have f3:J.cell? ⟨g,ns.length,none⟩=some (nI (pn:Nat)):=by have:=I.cells (g:=g) rfl ns.length _ (zN4 ns (nR_ _));rw[zb7,aL]at this;rw[K];exact this
 have b7:Hi (pn=ptF ns ns.length/\pn<=300):=⟨K,by rw[K];exact aH (zq9 _ _) a2.o⟩;have f1:IntKind.i64.wrap ((pn:Int)+1)=((pn+1:Nat):Int):=zb3 (oH b7.o);have d9:(ns.length:Int)<(ns.length:Int)+1:=oM;clear d I a6 b3 a7 K;go_wp2_with fail;obtain⟨y1,y0,y2,y3,y4,y5,y6⟩:=a4.o.pc;have f5:¬G=D:=oH b6.o
 have f0:¬D=G:=oH b6.o
 have k0:J.drew.cell? (aD G 0)=some (.slice o0 n0 p0):=y0;have k1:J.drew.cell? (aD G 1)=some (.slice o1 n1 p1):=y2;have k2:J.drew.cell? (aD G 2)=some (.slice o2 n2 p2):=y3;have k3:J.drew.cell? (aD G 3)=some (.slice o3 n3 p3):=y4;have k4:J.drew.cell? (aD G 4)=some (.slice o4 n4 p4):=y5;have k5:J.drew.cell? (aD G 5)=some (.slice o5 n5 p5):=y6
 go_region_held3 (λw'=>w'.cell? (aD G 0)=some (.slice o0 n0 p0)/\w'.cell? (aD G 1)=some (.slice o1 n1 p1)/\w'.cell? (aD G 2)=some (.slice o2 n2 p2)/\w'.cell? (aD G 3)=some (.slice o3 n3 p3)/\w'.cell? (aD G 4)=some (.slice o4 n4 p4)/\w'.cell? (aD G 5)=some (.slice o5 n5 p5))
  (first|(with_reducible exact⟨k0,k1,k2,k3,k4,k5⟩) | (with_reducible exact⟨d0,d1,d2,d3,d4,d5⟩) | go_keep)
  (first
  |(go_at_call 61;refine(Calls.mono (yk7 _ _ ns _ (by have:=(HP.o.below (Z.o.draws 1)).nodes;rw[HV.o]at this;exact this) (za1 c8.o ((Ok.refl _).draws 1)) (HS.o.below (Z.o.draws 1)) (zy1 HT.o) (oH a2.o) HT.o.twoIn) ?_);rintro e I ⟨ev,rfl,a1,R⟩;have K:Ok J I:=Ok.step ((Ok.refl _).draws 1) R;have d6:Hi (Ok w I):=Z.o.step K;have b8:Hi (Six I G (.slice o0 n0 p0) (.slice o1 n1 p1) (.slice o2 n2 p2) (.slice o3 n3 p3) (.slice o4 n4 p4) (.slice o5 n5 p5)):=a4.o.below K;have d:Hi (I.heap[D]?=some (.cells #[sZ,sZ,sZ,sZ,sZ,sZ,nI 0,nI 0,sZ] 59 (0,0))):=Ok.row' K a5.o;have b2:Hi (AG I L.heap.size u ns m):=λk O=>za1 (c9.o k O) K;have a8:Hi (I.ownsRow J.heap.size 98 6 ev (elF ns).length (edL (elF ns))):=a1;obtain⟨lo,lc,rfl⟩:=za0 a1;obtain⟨-,d0,d1,d2,d3,d4,d5⟩:=b8.o.pc;have r0:I.cell? (aD D 0)=some (sZ):=(cell_of_row _ _ 0 _ _ _ d.o).trans (by simp);have r1:I.cell? (aD D 1)=some (sZ):=(cell_of_row _ _ 1 _ _ _ d.o).trans (by simp);have r2:I.cell? (aD D 2)=some (sZ):=(cell_of_row _ _ 2 _ _ _ d.o).trans (by simp);have r3:I.cell? (aD D 3)=some (sZ):=(cell_of_row _ _ 3 _ _ _ d.o).trans (by simp);have r4:I.cell? (aD D 4)=some (sZ):=(cell_of_row _ _ 4 _ _ _ d.o).trans (by simp);have r5:I.cell? (aD D 5)=some (sZ):=(cell_of_row _ _ 5 _ _ _ d.o).trans (by simp);have r6:I.cell? (aD D 6)=some (nI 0):=(cell_of_row _ _ 6 _ _ _ d.o).trans (by simp);have r7:I.cell? (aD D 7)=some (nI 0):=(cell_of_row _ _ 7 _ _ _ d.o).trans (by simp);have r8:I.cell? (aD D 8)=some (sZ):=(cell_of_row _ _ 8 _ _ _ d.o).trans (by simp);have wf:∀i,I.frozen? (aD D i)=false:=λi=>frozen_of_row _ _ _ _ _ d.o;have f4:=za2 d.o;clear K R a1)
  | fail)
 have b5:Hi (D<J.heap.size):=za2 a5.o;go_wp2_with fail
 try simp only[Exit.inBlock,Exit.then]
 refine bodyPost_ret (zc0 rfl _ _ D 59 _ (0,0) _ rfl (zC4 d.o _ _ _ _ _ _ _ _ _) Tryz.underlying59 rfl Tryz.infoG) rfl ?_;refine⟨u,.slice lo (elF ns).length lc,?_,b9.o,?_,?_,?_⟩
 ·obtain⟨e0,e1,e2,e3,e4,e5⟩:=HE.o
  rw[e0,e1,e2,e3,e4,e5,<-b7.o.1];rfl
 ·intro k O
  rw[<-HM.o];have hz:=d7.o;have hb:=HB.o;exact za7 (zC5 (b2.o k O) (λb a3=>by have:=((b2.o k O).lt b a3).1;omega) _ _ _ _ _ _ _ _ _) oM
 ·have hz:=b5.o
  have hb:=HB.o;exact za7 (zC5 a8.o (λb a3=>by have:=(a8.o.lt b a3).1;omega) _ _ _ _ _ _ _ _ _) oM
 exact zq5 d6.o (oH HB.o) _ _ _ _ _ _ _ _ _
def yk8(v0 v1 v2 v3 v4 v5:Value)(ns:List Nd)(l:Ls)(w:World)(d:BE w)(h:BV w v0 v1 v2 v3 v4 v5 ns l)(D:DG ns l=false) :
  Calls Tryz.prog 36 #[.agg #[v0,v1,v2,v3,v4,v5]] w λe w'=>e=.returned (.tuple #[.agg #[sZ,sZ,sZ,sZ,sZ,sZ,nI 0,nI 0,sZ],nI 2])/\Ok w w':=by
 have X:=hid D;have O:=hid h;have R:=hid d;clear D h d;go_enter Tryz.func36,Tryz.ntmps36;go_wp2_with fail;obtain⟨w0,G⟩:=qq ((w.alloc (Obj.cells #[v0,v1,v2,v3,v4,v5] 30)).alloc (Obj.cells #[sZ,sZ,sZ,sZ,sZ,sZ,nI 0,nI 0,sZ] 59));obtain⟨D,d⟩:=qq (w.heap.size+1);rw[<-G,<-d];have J:Hi (Ok w w0):=by rw[G];exact((Ok.refl w).alloc _).alloc _
 have K:Hi (w0.heap[D]?=some (.cells #[sZ,sZ,sZ,sZ,sZ,sZ,nI 0,nI 0,sZ] 59 (0,0))):=by rw[G,d];exact heap_at _ _ _ (by simp)
 have W:Hi (D=w.heap.size+1):=d;clear G d;refine mq (zO9 v0 v1 v2 v3 v4 v5 ns l w0 (R.o.below J.o) (O.o.below J.o)) λG I=>?_;rw[X.o];have L:=hid (J.o.step I);have d:=hid (Ok.row' I K.o);clear I K;have K:G.cell? (aD D 0)=some (sZ):=(cell_of_row _ _ 0 _ _ _ d.o).trans sI;have r1:G.cell? (aD D 1)=some (sZ):=(cell_of_row _ _ 1 _ _ _ d.o).trans sI;have r2:G.cell? (aD D 2)=some (sZ):=(cell_of_row _ _ 2 _ _ _ d.o).trans sI;have r3:G.cell? (aD D 3)=some (sZ):=(cell_of_row _ _ 3 _ _ _ d.o).trans sI;have r4:G.cell? (aD D 4)=some (sZ):=(cell_of_row _ _ 4 _ _ _ d.o).trans sI;have Z:G.cell? (aD D 5)=some (sZ):=(cell_of_row _ _ 5 _ _ _ d.o).trans sI;have r6:G.cell? (aD D 6)=some (nI 0):=(cell_of_row _ _ 6 _ _ _ d.o).trans sI;have Y:G.cell? (aD D 7)=some (nI 0):=(cell_of_row _ _ 7 _ _ _ d.o).trans sI;have r8:G.cell? (aD D 8)=some (sZ):=(cell_of_row _ _ 8 _ _ _ d.o).trans sI;have wf:∀i,G.frozen? (aD D i)=false:=λi=>frozen_of_row _ _ _ _ _ d.o;have I:=za2 d.o;go_wp2_with fail
 try simp only[Exit.inBlock,Exit.then]
 refine bodyPost_ret (zc0 rfl _ _ D 59 _ (0,0) _ rfl (zC4 d.o _ _ _ _ _ _ _ _ _) Tryz.underlying59 rfl Tryz.infoG) rfl ?_;exact⟨rfl,zq5 L.o (oH W.o) _ _ _ _ _ _ _ _ _⟩
end Go.Proofs.YthoegkcpmgalbaaGreatDoor
