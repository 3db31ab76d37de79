import Derived.Test.YthoegkcpmgalbaaGreatDoorKCdps
set_option linter.all false
set_option maxRecDepth 100000
namespace Go.Proofs.YthoegkcpmgalbaaGreatDoor
open Go.RowKit
variable{B g n s:Nat}{e:TypeId}{v:Value}{w:World}{xs:List Value}
def Mid.as{W:World}{q:Nat}{d:Nd}{v:Nat->Value}(h:Mid W g q d v){y0 y1 y2 y3 y4 o:Value}(J:v 0=y0)(I:v 1=y1)(D:v 2=y2)(L:v 3=y3)(G:v 4=y4)(K:v 5=o):g<W.heap.size/\q<W.heap.size/\¬g=q/\¬q=g/\W.cell? (aD g 0)=some y0/\W.cell? (aD g 1)=some y1/\W.cell? (aD g 2)=some y2/\W.cell? (aD g 3)=some y3/\W.cell? (aD g 4)=some y4/\W.cell? (aD g 5)=some o/\(∀k,W.frozen? (aD g k)=false)/\W.cell? (aD q 0)=some (nI d.depth)/\W.cell? (aD q 1)=some (nI d.kind)/\W.cell? (aD q 2)=some (.string d.name)/\W.cell? (aD q 3)=some (nI d.num)/\W.cell? (aD q 4)=some (nI d.op)/\W.cell? (aD q 5)=some (nI d.pos):=by subst J I D L G K;exact⟨h.glt,h.qlt,h.gq,h.qg,h.c0,h.c1,h.c2,h.c3,h.c4,h.c5,h.warm,h.d0,h.d1,h.d2,h.d3,h.d4,h.d5⟩
def zf3{e:Nat}{d:Value}(h:w.ownsRow B e s v n xs)(o:v=d):w.ownsRow B e s d n xs:=o ▸ h
def PS.apq{W W2:World}{q k m:Nat}{o:Nd}{v:Nat->Value}{n:Nat->Nat}{x:Nat->List Value}{u d:Value}{y:List Value}(h:PS w W g q o v n x)(J:k<6)(e:v k=d)(D:W.grownBy W2 d.ownBlock)(I:W2.ownsRow (g+1) (TY k) (SZ k) u m y)
  (G:u.ownBlock=d.ownBlock\/u.ownBlock=some W.heap.size):Mid W2 g q o v/\PS w (W2.setCell (aD g k) u) g q o (AU v k u) (AU n k m) (AU x k y):=h.app J (by rw[e];exact D) I (by rw[e];exact G)
def zw3(n:Nd):(BB n=1->BR n=false)/\(BB n=2->BR n=true):=by
 unfold BB BR;refine⟨λh=>?_,λh=>?_⟩
 ·by_cases d:n.kind=2\/n.kind=4\/n.kind=12
  ·rcases d with e | e | e<;>simp[e]
  rw[aC d]at h
  split at h<;>simp at h
 by_cases d:n.kind=2\/n.kind=4\/n.kind=12
 ·rw[aG d]at h;simp at h
 rw[aC d]at h;by_cases o:n.kind=3\/n.kind=13
 ·rcases o with e | e<;>simp[e]
 rw[aC o]at h;simp at h
def Tryz.inf55:(Tryz.prog.info? 53).map (λi=>(i.zero,i.size,i.bytes))=some (some (.agg #[nI 0,nI 0,.string ⟨#[]⟩,nI 0,nI 0,nI 0]),6,56):=by kernel_rfl
def Tryz.inf9:(Tryz.prog.info? 9).map (λi=>(i.zero,i.size,i.bytes))=some (some (.string ⟨#[]⟩),1,16):=by kernel_rfl
def Tryz.inf76:(Tryz.prog.info? 55).map (λi=>(i.zero,i.size,i.bytes))=some (some (.agg #[.string ⟨#[]⟩,nI 0]),2,24):=by kernel_rfl
def Tryz.inf3:(Tryz.prog.info? 3).map (λi=>(i.zero,i.size,i.bytes))=some (some (nI 0),1,8):=by kernel_rfl
def yl5{B':Nat}(h:w.ownsRow B e s v n xs)(o:B'<=B):w.ownsRow B' e s v n xs :=
 ⟨h.1,h.2.imp id (λ⟨g,cap,d,G,D,I⟩=>⟨g,cap,d,G,aH o D,I⟩)⟩
def zn8{o:Nat}(h:w.ownsRow B e s v n xs)(D:g<B)(u:Value):(w.setCell (aD g o) u).ownsRow B e s v n xs:=by
 refine h.kept (zs0 w g o u) ?_
 cases d:v.ownBlock with
 | none=>exact .inl rfl
 | some b=>exact .inr (by have:=(h.lt b d).1;simp;omega)
def zI9(h:w.ownsRow B e s v n xs)(d:g<B)(I J K D o G:Value) :
  ((((((w.setCell (aD g 0) I).setCell (aD g 1) J).setCell (aD g 2) K).setCell (aD g 3) D).setCell (aD g 4) o).setCell (aD g 5) G).ownsRow g e s v n xs :=
 yl5 (zn8 (zn8 (zn8 (zn8 (zn8 (zn8 h d I) d J) d K) d D) d o) d G) oM
def zX5{ns:List Nd}(D:Shp ns)(i:Nat)(o:i<ns.length)(G:(BS ns[i]||DM ns[i])=true):∃(k:Nat) (J:k<ns.length),BZ ns ns[i].depth i=k/\wb4 ns[k]=wc1 ns i ns[i]:=by
 have J:10<=ns[i].kind:=by
  by_cases h:10<=ns[i].kind
  ·exact h
  have:=(zo2 (D.fit i o)).2.2.1 oM;rw[this.1,this.2]at G;cases G
 obtain⟨k,d,K,I,O,R⟩:=zr9 D i o (D.expr i o J) i (nR_ _) (λm L a b=>absurd a oM);refine⟨k,d,I,?_⟩;unfold wc1;rw[I,aO];have e:ns.getD k nd0=ns[k]:=by simp[List.getD,d]
 rw[e]
set_option maxHeartbeats 8000000 in
def zJ0(nb o cap:Nat)(ns:List Nd)(w:World)(D:∀n∈ns,n.Ok)(G:AV w nb o ns)(l3:ns.length<=cap)(l4:cap<=maxLen) :
  Calls Tryz.prog 25 #[.slice (sA nb o) ns.length cap] w λe w'=>∃v:Nat->Value,e=.returned (.tuple #[.agg #[v 0,v 1,v 2,v 3,v 4,v 5],nI (AA ns).1,nI (AA ns).2.1])/\Below w.heap.size w w' /\
   ((AA ns).1=0->(∀k,k<6->w'.ownsRow w.heap.size (TY k) (SZ k) (v k) (nOf ns.length (AA ns).2.2 k) (xOf ns ns.length (AA ns).2.2 k))/\Apt v)/\((AA ns).1≠0->∀k,v k=sZ):=by
 have hl:ns.length<=maxLen:=oM;unfold maxLen at hl;have o5:=G.lt;have o1:Hi _:=D;have HN:Hi _:=G;have W:Hi (∀w',Below w.heap.size w w'->Calls Tryz.prog 47 #[.slice (sA nb o) ns.length cap] w' λe g9=>e=.returned (.tuple #[nI (CJ ns).1,nI (CJ ns).2])/\Below w'.heap.size w' g9):=λw' hb=>zT8 nb o cap ns w' D (G.below hb) l3 l4;have d:Hi (∀ob,Below w.heap.size w (w.alloc ob)):=λob=>(Below.refl _ _).alloc (nR_ _) _;clear D G;by_cases G:(CJ ns).1=0
 case neg =>
  have D:((CJ ns).1==0)=false:=by rw[aF];exact G
  have HE:Hi (AA ns=((CJ ns).1,(CJ ns).2,ls0)):=by unfold Hi AA;rw[aC G];rfl
  go_enter Tryz.func25,Tryz.ntmps25;go_wp2_with fail;refine mq (W.o _ (d.o _)) λw1 g6=>?_;have HX:Hi (Six w1 w.heap.size (sZ) (sZ) (sZ) (sZ) (sZ) (sZ)):=(Six.new w _ _ _ _ _ _).below g6;have j8:Hi (Below w.heap.size w w1):=(d.o _).trans (g6.mono sI);clear g6;obtain⟨z1,L,K,O,J,I,R⟩:=HX.o.pc;have wf:=HX.o.warm;go_wp2_with fail
  try simp only[Exit.inBlock,Exit.then]
  refine bodyPost_ret (zc6 rfl _ _ w.heap.size 30 _ (0,0) _ rfl (zc9 HX.o.heap _ _ _ _ _ _) Tryz.underlying30 rfl Tryz.info30) rfl ?_;rw[HE.o];exact⟨λ_=>sZ,rfl,zc8 j8.o (nR_ _) _ _ _ _ _ _,λh'=>absurd h' G,λ_ _=>rfl⟩
 have l8:Hi ((BL ns).1=0):=by rw[<-zz0 ns o1.o];exact G
 have l9:=hid (zP0 l8.o);have j5:ns.length<=300:=(zn9 ns l8.o).1;have n6:(ns.length:Int)<=300:=oM;have HE:Hi (AA ns=AR ns ns 0 ls0):=by unfold Hi AA;rw[aG G];rfl
 have D:Hi (∀w',Below w.heap.size w w'->Calls Tryz.prog 47 #[.slice (sA nb o) ns.length cap] w' λe g9=>e=.returned (.tuple #[nI 0,nI (CJ ns).2])/\Below w'.heap.size w' g9):=λw' hb=>by
  have:=W.o w' hb
  rwa [G]at this
 clear W G;generalize (CJ ns).2=sh2 at *;go_enter Tryz.func25,Tryz.ntmps25;go_wp2_with fail;refine mq (D.o _ (d.o _)) λw1 g6=>?_;have l6:Hi (Six w1 w.heap.size (sZ) (sZ) (sZ) (sZ) (sZ) (sZ)):=(Six.new w _ _ _ _ _ _).below g6;have j8:Hi (Below w.heap.size w w1):=(d.o _).trans (g6.mono sI);have l1:w.heap.size<w1.heap.size:=l6.o.lt;clear g6 D d;obtain⟨g,d⟩:=qq (w1.heap.size);have HG:Hi _:=d
 have m7:Hi (we8 (w1.alloc (.cells #[sZ,sZ,sZ,sZ,sZ,sZ] 30)) w1.heap.size (w1.heap.size+1) (λ_=>sZ) (nOf 0 ls0) (xOf ns 0 ls0)):=by
  have S:=Six.new w1 (sZ) (sZ) (sZ) (sZ) (sZ) (sZ);have P:=S.pc;refine⟨oM,by simp,λk hk=>?_,λj k _ _ _=>.inl rfl,λk hk=>?_,S.warm⟩
  ·have:k=0\/k=1\/k=2\/k=3\/k=4\/k=5:=oM
   rcases this with rfl | rfl | rfl | rfl | rfl | rfl<;>exact World.ownsRow_nil _ _ _ _
  have:k=0\/k=1\/k=2\/k=3\/k=4\/k=5:=oM;rcases this with rfl | rfl | rfl | rfl | rfl | rfl
  ·exact P.c0
  ·exact P.c1
  ·exact P.c2
  ·exact P.c3
  ·exact P.c4
  exact P.c5
 have i5:Hi _:=l6.o.below ((Below.refl _ _).alloc (nR_ _) (.cells #[sZ,sZ,sZ,sZ,sZ,sZ] 30));have i7:Hi (Below w.heap.size w (w1.alloc (.cells #[sZ,sZ,sZ,sZ,sZ,sZ] 30))):=j8.o.alloc j8.o.size _;rw[<-d]at m7;clear d;go_wp2_with fail;go_loopw [8] (λt wr=>∃(i:Nat) (l:Ls) (v:Nat->Value),i<=ns.length/\t=nI i/\Hi (AR ns ns 0 ls0=AR ns (ns.drop i) i l)/\Hi (Below w.heap.size w wr)/\Hi (Six wr w.heap.size (sZ) (sZ) (sZ) (sZ) (sZ) (sZ))/\Hi (we8 wr g (g+1) v (nOf i l) (xOf ns i l))/\Hi (l.sc.length<=i/\l.ar.length<=i/\l.sy.length=i/\l.si.length<=i/\l.so.length=i)) (λt _=>ns.length-(intOf t).toNat)
 case atStart=>exact⟨0,ls0,λ_=>sZ,oM,rfl,rfl,i7.o,i5.o,m7.o,by unfold Hi;simp[ls0]⟩
 obtain⟨i,l,v,hi,rfl,hr,HB,HX,HO,G⟩:=hrel;rw[<-HG.o];by_cases a9:i<ns.length
 ·obtain⟨n,d⟩:∃n,ns[i]=n:=⟨_,rfl⟩
  have h3:Hi _:=d
  have W:Hi (∀w',Below w.heap.size w w'->Calls Tryz.prog 48 #[.slice (sA nb o) ns.length cap,nI i,nI l.si.length] w' λe g9=>e=.returned (nI (EI ns i n l.si.length))/\Below w'.heap.size w' g9):=λw' hb=>by refine zY1 nb o cap i l.si.length ns _ _ _ _ n w' a9 d j5 (oH G.o) (HN.o.below hb) rfl rfl rfl (λD=>?_);rw[<-d]at D ⊢;exact zX5 l9.o i a9 D
  have D:Hi (AR ns ns 0 ls0=if EI ns i n l.si.length=0 then AR ns (ns.drop (i+1)) (i+1) (BD ns i n l) else (EI ns i n l.si.length,(i:Int),l)):=by unfold Hi;rw[hr.o,aP a9,AR,d]
  clear hr d;obtain⟨a4,k4,e4⟩:=za0 (show wr.ownsRow (g+1) 3 1 (v 4) l.si.length _ from HO.o.own 4 oM);have I:=HO.o.cell 4 oM;rw[e4]at I;have o9:(i:Int)<ns.length:=oM;generalize p6:EI ns i n l.si.length=fr at *;go_wp2_with fail;refine mq (W.o _ HB.o) λw2 d=>?_;have i7:=hid (HB.o.trans (d.mono HB.o.size));have i5:Hi _:=HX.o.below d;have d7:Hi _:=HO.o.below d;clear d HB HX HO I W;by_cases j9:fr=0
  case neg =>
   have d:(fr==0)=false:=by rw[aF];exact j9
   have HL:Hi (AA ns=(fr,(i:Int),l)):=by unfold Hi;rw[HE.o,D.o,aC j9]
   obtain⟨z1,L,K,O,J,I,R⟩:=i5.o.pc;have wf:=i5.o.warm;go_wp2_with fail
   try simp only[Exit.inBlock,Exit.then]
   refine bodyPost_ret (zc6 rfl _ _ w.heap.size 30 _ (0,0) _ rfl (zc9 i5.o.heap _ _ _ _ _ _) Tryz.underlying30 rfl Tryz.info30) rfl ?_;rw[HL.o];exact⟨λ_=>sZ,rfl,zc8 i7.o (nR_ _) _ _ _ _ _ _,λh'=>absurd h' j9,λ_ _=>rfl⟩
  subst j9;have g5:Hi (AR ns ns 0 ls0=AR ns (ns.drop (i+1)) (i+1) (BD ns i n l)):=by unfold Hi;rw[D.o,aG rfl]
  clear D;obtain⟨a0,k0,e0⟩:=za0 (show w2.ownsRow (g+1) 53 6 (v 0) i _ from d7.o.own 0 oM);obtain⟨a1,k1,e1⟩:=za0 (show w2.ownsRow (g+1) 9 1 (v 1) l.sc.length _ from d7.o.own 1 oM);obtain⟨a2,k2,e2⟩:=za0 (show w2.ownsRow (g+1) 55 2 (v 2) l.ar.length _ from d7.o.own 2 oM);obtain⟨a3,k3,e3⟩:=za0 (show w2.ownsRow (g+1) 3 1 (v 3) l.sy.length _ from d7.o.own 3 oM);obtain⟨o6,o7,o8⟩:=za0 (show w2.ownsRow (g+1) 3 1 (v 4) l.si.length _ from d7.o.own 4 oM);obtain⟨a5,k5,e5⟩:=za0 (show w2.ownsRow (g+1) 3 1 (v 5) l.so.length _ from d7.o.own 5 oM);have d:=HN.o.below i7.o;have m0:=d.c0 i a9;have m1:=d.c1 i a9;have m2:=d.c2 i a9;have m3:=d.c3 i a9;have m4:=d.c4 i a9;have m5:=d.c5 i a9;rw[h3.o]at m0 m1 m2 m3 m4 m5;have j1:¬nb=w2.heap.size:=oH d.lt
  clear d
  have g4:Hi (PS w (w2.alloc (.cells #[nI n.depth,nI n.kind,.string n.name,nI n.num,nI n.op,nI n.pos] 53)) g w2.heap.size n v (nOf i l) (xOf ns i l)):=by have hb:Below w2.heap.size w2 (w2.alloc (.cells #[nI n.depth,nI n.kind,.string n.name,nI n.num,nI n.op,nI n.pos] 53)):=(Below.refl _ _).alloc (nR_ _) _;exact⟨i7.o.trans (hb.mono i7.o.size),i5.o.below hb,d7.o.below hb,NdC.new w2 n,by have:=l1;rw[<-HG.o]at this;omega,cY d7.o.gB d7.o.lt,λk hk e=>by have:=((d7.o.own k hk).lt _ e).2;omega⟩
  have HF:Hi _:=zo2 (l9.o.fit i a9);rw[h3.o]at HF
  obtain⟨L,K,O,J,I,R⟩:w2.cell? ⟨g,0,none⟩=some (Value.slice a0 i k0)/\w2.cell? ⟨g,1,none⟩=some (Value.slice a1 l.sc.length k1)/\w2.cell? ⟨g,2,none⟩=some (Value.slice a2 l.ar.length k2)/\w2.cell? ⟨g,3,none⟩=some (Value.slice a3 l.sy.length k3)/\w2.cell? ⟨g,4,none⟩=some (Value.slice a4 l.si.length k4)/\w2.cell? ⟨g,5,none⟩=some (Value.slice a5 l.so.length k5) :=
   ⟨by rw[<-e0];exact d7.o.cell 0 oM,by rw[<-e1];exact d7.o.cell 1 oM,by rw[<-e2];exact d7.o.cell 2 oM,by rw[<-e3];exact d7.o.cell 3 oM,by rw[<-e4];exact d7.o.cell 4 oM,by rw[<-e5];exact d7.o.cell 5 oM⟩
  have h6:g<w2.heap.size:=lL_ d7.o.gB d7.o.lt;have h5:¬g=w2.heap.size:=oM;have i1:¬w2.heap.size=g:=oM;obtain⟨iN,i8,j0,i9,i6⟩:=info_parts Tryz.inf55;obtain⟨iS,n2,n5,n1,n0⟩:=info_parts Tryz.inf9;obtain⟨iA,n3,n4,o4,o3⟩:=info_parts Tryz.inf76;obtain⟨iI,f3,f5,f7,f4⟩:=info_parts Tryz.inf3;have m9:Hi (∀w',Below w.heap.size w w'->Calls Tryz.prog 50 #[.slice (sA nb o) ns.length cap,nI 0,.string n.name,nI ns.length] w' λe g9=>e=.returned (.tuple #[nI (AN ns 0 n.name.toList ns.length).1,nI (AN ns 0 n.name.toList ns.length).2])/\g9=w'):=λw' hb=>zf8 nb o cap ns.length 0 n.name ns w' (nR_ _) j5 (.inl rfl) (HN.o.below hb);have m8:Hi (∀w',Below w.heap.size w w'->Calls Tryz.prog 50 #[.slice (sA nb o) ns.length cap,nI 1,.string n.name,nI ns.length] w' λe g9=>e=.returned (.tuple #[nI (AN ns 1 n.name.toList ns.length).1,nI (AN ns 1 n.name.toList ns.length).2])/\g9=w'):=λw' hb=>zf8 nb o cap ns.length 1 n.name ns w' (nR_ _) j5 (.inr rfl) (HN.o.below hb);obtain⟨ds,D⟩:∃x,(AN ns 0 n.name.toList ns.length).1=x:=⟨_,rfl⟩;obtain⟨da,d⟩:∃x,(AN ns 1 n.name.toList ns.length).1=x:=⟨_,rfl⟩;obtain⟨dn,W⟩:∃x,(AN ns 0 n.name.toList ns.length).2=x:=⟨_,rfl⟩;obtain⟨dm,X⟩:∃x,(AN ns 1 n.name.toList ns.length).2=x:=⟨_,rfl⟩;have n7:Hi _:=D;have o2:Hi _:=d;rw[D,W]at m9;rw[d,X]at m8;clear D d W X;by_cases i3:n.kind=0
  ·have m6:(n.kind==0)=true:=by rw[i3];rfl
   have D:BR n=false:=HF.o.2.2.2.2 oM;have j6:Hi _:=i3;clear i3;have O1:Hi ((w2.alloc (.cells #[nI n.depth,nI n.kind,.string n.name,nI n.num,nI n.op,nI n.pos] 53)).ownsRow (g+1) 9 1 (Value.slice a1 l.sc.length k1) l.sc.length (l.sc.map (λs=>Value.string s))):=zf3 (g4.o.own.own 1 oM) (by first | exact e1 | rfl)
   go_wp2_with (at_builtin;refine wpList_append_own_at _ rfl _ _ 26 rfl (g+1) 9 iS (.string ⟨#[]⟩) 1 16 Tryz.underlying26 n2 n5 n1 n0 rfl dC _ _ _ rfl (O1.o.alloc _) ⟨w2.heap.size+1,0,none⟩ 1 1 [.string n.name] rfl rfl ?z1a ?z1b ?z1c ?z1d ?z1e ?_)
   case z1a =>
    intro j u d
    match j,d with
    | 0,d=>simp at d;subst d;simp[Addr.add,go_sem]
   case z1b=>intro u X;simp at X;subst X;rfl
   case z1c=>simp[maxLen];have:=G.o;omega
   case z1d=>have:=G.o;omega
   case z1e=>have:=g4.o.own.lt;simp at this ⊢;omega
   intro u1 X1 h9 h4 _ g1;obtain⟨b1,q1,rfl⟩:=za0 h9;have j4:Hi _:=(g4.o.below ((Below.refl _ _).alloc (aK _) _)).apq (k:=1) oM (by first | exact e1 | rfl) h4 h9 (by first | exact g1 | simpa using g1);have l0:Hi _:=j4.o.1;clear O1 h9 h4 g1;clear L K O J I R j1 m0 m1 m2 m3 m4 m5 h6 h5 i1;obtain⟨Y,ql,Z,qg,L,K,O,J,I,R,wm,d0,d1,d2,d3,d4,d5⟩:=l0.o.as e0 e1 e2 e3 e4 e5;go_wp2_with fail;refine mq (zk1 n D _) λY2 c7=>?_;have d6:Hi _:=j4.o.2.below c7;clear c7;clear L K O J I R d0 d1 d2 d3 d4 d5 wm Y ql Z qg;obtain⟨Y,ql,Z,qg,L,K,O,J,I,R,wm,d0,d1,d2,d3,d4,d5⟩:=d6.o.mid.as (y1:=.slice b1 (l.sc.length+1) q1) e0 rfl e2 e3 e4 e5;have c6:Hi (wa8 ns n l=(l.sc.length:Int)):=by unfold Hi wa8;rw[aG j6.o]
   have O3:Hi (Y2.ownsRow (g+1) 53 6 (Value.slice a0 i k0) i ((ns.take i).flatMap AQ)):=zf3 (d6.o.own.own 0 oM) (by first | exact e0 | rfl)
   go_wp2_with (at_builtin;refine wpList_append_own_at _ rfl _ _ 25 rfl (g+1) 53 iN (.agg #[nI 0,nI 0,.string ⟨#[]⟩,nI 0,nI 0,nI 0]) 6 56 Tryz.underlying25 i8 j0 i9 i6 rfl dC _ _ _ rfl (O3.o.alloc _) ⟨Y2.heap.size,0,none⟩ 1 1 [nI n.depth,nI n.kind,.string n.name,nI n.num,nI n.op,nI n.pos] rfl rfl ?z3a ?z3b ?z3c ?z3d ?z3e ?_)
   case z3a =>
    intro j u d
    match j,d with
    | 0,d=>simp at d;subst d;simp[Addr.add,go_sem]
    | 1,d=>simp at d;subst d;simp[Addr.add,go_sem]
    | 2,d=>simp at d;subst d;simp[Addr.add,go_sem]
    | 3,d=>simp at d;subst d;simp[Addr.add,go_sem]
    | 4,d=>simp at d;subst d;simp[Addr.add,go_sem]
    | 5,d=>simp at d;subst d;simp[Addr.add,go_sem]
   case z3b=>intro u X;simp at X;rcases X with rfl | rfl | rfl | rfl | rfl | rfl<;>rfl
   case z3c=>simp[maxLen];have:=G.o;omega
   case z3d=>have:=G.o;omega
   case z3e=>have:=d6.o.own.lt;simp at this ⊢;omega
   intro u3 X3 h7 h2 _ g3;obtain⟨b3,q3,rfl⟩:=za0 h7;have g8:Hi _:=(d6.o.below ((Below.refl _ _).alloc (aK _) _)).apq (k:=0) oM (by first | exact e0 | rfl) h2 h7 (by first | exact g3 | simpa using g3);have k9:Hi _:=g8.o.1;clear O3 h7 h2 g3;clear L K O J I R d0 d1 d2 d3 d4 d5 wm Y ql Z qg;obtain⟨Y,ql,Z,qg,L,K,O,J,I,R,wm,d0,d1,d2,d3,d4,d5⟩:=k9.o.as (y1:=.slice b1 (l.sc.length+1) q1) e0 rfl e2 e3 e4 e5;have O4:Hi ((X3.setCell (aD g 0) (Value.slice b3 (i+1) q3)).ownsRow (g+1) 3 1 (Value.slice a3 l.sy.length k3) l.sy.length (l.sy.map (λs=>Value.int .i64 s))):=zf3 (g8.o.2.own.own 3 oM) (by first | exact e3 | rfl)
   go_wp2_with (at_builtin;refine wpList_append_own_at _ rfl _ _ 28 rfl (g+1) 3 iI (nI 0) 1 8 Tryz.underlying28 f3 f5 f7 f4 rfl dC _ _ _ rfl (O4.o.alloc _) ⟨X3.heap.size,0,none⟩ 1 1 [nI l.sc.length] rfl rfl ?z4a ?z4b ?z4c ?z4d ?z4e ?_)
   case z4a =>
    intro j u d
    match j,d with
    | 0,d=>simp at d;subst d;simp[Addr.add,go_sem]
   case z4b=>intro u X;simp at X;subst X;rfl
   case z4c=>simp[maxLen];have:=G.o;omega
   case z4d=>have:=G.o;omega
   case z4e=>have:=g8.o.2.own.lt;simp at this ⊢;omega
   intro u4 X4 c9 c8 _ a6;obtain⟨b4,q4,rfl⟩:=za0 c9;have b0:Hi _:=(g8.o.2.below ((Below.refl _ _).alloc (aK _) _)).apq (k:=3) oM (by first | exact e3 | rfl) c8 c9 (by first | exact a6 | simpa using a6);have g7:Hi _:=b0.o.1;clear O4 c9 c8 a6;clear L K O J I R d0 d1 d2 d3 d4 d5 wm Y ql Z qg;obtain⟨Y,ql,Z,qg,L,K,O,J,I,R,wm,d0,d1,d2,d3,d4,d5⟩:=g7.o.as (y0:=.slice b3 (i+1) q3) (y1:=.slice b1 (l.sc.length+1) q1) rfl rfl e2 e3 e4 e5;have O5:Hi ((X4.setCell (aD g 3) (Value.slice b4 (l.sy.length+1) q4)).ownsRow (g+1) 3 1 (Value.slice a5 l.so.length k5) l.so.length (l.so.map (λs=>Value.int .i64 s))):=zf3 (b0.o.2.own.own 5 oM) (by first | exact e5 | rfl)
   go_wp2_with (at_builtin;refine wpList_append_own_at _ rfl _ _ 28 rfl (g+1) 3 iI (nI 0) 1 8 Tryz.underlying28 f3 f5 f7 f4 rfl dC _ _ _ rfl (O5.o.alloc _) ⟨X4.heap.size,0,none⟩ 1 1 [nI (-1)] rfl rfl ?z5a ?z5b ?z5c ?z5d ?z5e ?_)
   case z5a =>
    intro j u d
    match j,d with
    | 0,d=>simp at d;subst d;simp[Addr.add,go_sem]
   case z5b=>intro u X;simp at X;subst X;rfl
   case z5c=>simp[maxLen];have:=G.o;omega
   case z5d=>have:=G.o;omega
   case z5e=>have:=b0.o.2.own.lt;simp at this ⊢;omega
   intro u5 X5 b9 a7 _ W;obtain⟨b5,q5,rfl⟩:=za0 b9;have a8:Hi _:=(b0.o.2.below ((Below.refl _ _).alloc (aK _) _)).apq (k:=5) oM (by first | exact e5 | rfl) a7 b9 (by first | exact W | simpa using W);have g2:Hi _:=a8.o.1;clear O5 b9 a7 W;clear L K O J I R d0 d1 d2 d3 d4 d5 wm Y ql Z qg;obtain⟨Y,ql,Z,qg,L,K,O,J,I,R,wm,d0,d1,d2,d3,d4,d5⟩:=g2.o.as (y0:=.slice b3 (i+1) q3) (y1:=.slice b1 (l.sc.length+1) q1) (y3:=.slice b4 (l.sy.length+1) q4) rfl rfl e2 rfl e4 e5;have HQ:Hi _:=a8.o.2;go_wp2_with fail;go_roundw
   case rel =>
    refine⟨i+1,BD ns i n l,(AU (AU (AU (AU v 1 (Value.slice b1 (l.sc.length+1) q1)) 0 (Value.slice b3 (i+1) q3)) 3 (Value.slice b4 (l.sy.length+1) q4)) 5 (Value.slice b5 (l.so.length+1) q5)),oM,by go_num,g5,HQ.o.hb,HQ.o.six,HQ.o.own.congr (λk hk=>rfl) (λk hk=>?_) (λk hk=>?_),?_⟩
    ·have:k=0\/k=1\/k=2\/k=3\/k=4\/k=5:=oM
     rcases this with rfl | rfl | rfl | rfl | rfl | rfl<;>simp[AU,nOf,BD,j6.o,c6.o,D]
    ·have:k=0\/k=1\/k=2\/k=3\/k=4\/k=5:=oM
     rcases this with rfl | rfl | rfl | rfl | rfl | rfl<;>simp[AU,xOf,BD,zh0 ns i a9,h3.o,AQ,j6.o,c6.o,D]
    have:=G.o;unfold Hi;simp[BD,j6.o,c6.o,D];omega
   case measure=>simp[intOf];omega
  by_cases i0:n.kind=1
  ·have m6:(n.kind==0)=false:=by rw[i0];rfl
   have g6:(n.kind==1)=true:=by rw[i0];rfl
   have D:BR n=false:=HF.o.2.2.2.2 oM;have j2:Hi _:=i0;clear i3 i0;have O1:Hi ((w2.alloc (.cells #[nI n.depth,nI n.kind,.string n.name,nI n.num,nI n.op,nI n.pos] 53)).ownsRow (g+1) 55 2 (Value.slice a2 l.ar.length k2) l.ar.length (l.ar.flatMap (λa=>[Value.string a.1,Value.int .i64 a.2]))):=zf3 (g4.o.own.own 2 oM) (by first | exact e2 | rfl)
   go_wp2_with (at_builtin;refine wpList_append_own_at _ rfl _ _ 27 rfl (g+1) 55 iA (.agg #[.string ⟨#[]⟩,nI 0]) 2 24 Tryz.underlying27 n3 n4 o4 o3 rfl dC _ _ _ rfl (O1.o.alloc _) ⟨w2.heap.size+1,0,none⟩ 1 1 [.string n.name,nI n.num] rfl rfl ?z1a ?z1b ?z1c ?z1d ?z1e ?_)
   case z1a =>
    intro j u d
    match j,d with
    | 0,d=>simp at d;subst d;simp[Addr.add,go_sem]
    | 1,d=>simp at d;subst d;simp[Addr.add,go_sem]
   case z1b=>intro u X;simp at X;rcases X with rfl | rfl<;>rfl
   case z1c=>simp[maxLen];have:=G.o;omega
   case z1d=>have:=G.o;omega
   case z1e=>have:=g4.o.own.lt;simp at this ⊢;omega
   intro u1 X1 h9 h4 _ g1;obtain⟨b1,q1,rfl⟩:=za0 h9;have j4:Hi _:=(g4.o.below ((Below.refl _ _).alloc (aK _) _)).apq (k:=2) oM (by first | exact e2 | rfl) h4 h9 (by first | exact g1 | simpa using g1);have l0:Hi _:=j4.o.1;clear O1 h9 h4 g1;clear L K O J I R j1 m0 m1 m2 m3 m4 m5 h6 h5 i1;obtain⟨Y,ql,Z,qg,L,K,O,J,I,R,wm,d0,d1,d2,d3,d4,d5⟩:=l0.o.as e0 e1 e2 e3 e4 e5;go_wp2_with fail;refine mq (zk1 n D _) λY2 c7=>?_;have d6:Hi _:=j4.o.2.below c7;clear c7;clear L K O J I R d0 d1 d2 d3 d4 d5 wm Y ql Z qg;obtain⟨Y,ql,Z,qg,L,K,O,J,I,R,wm,d0,d1,d2,d3,d4,d5⟩:=d6.o.mid.as (y2:=.slice b1 (l.ar.length+1) q1) e0 e1 rfl e3 e4 e5;have c6:Hi (wa8 ns n l=(l.ar.length:Int)):=by unfold Hi wa8;rw[aC (oH j2.o),aG j2.o]
   have O3:Hi (Y2.ownsRow (g+1) 53 6 (Value.slice a0 i k0) i ((ns.take i).flatMap AQ)):=zf3 (d6.o.own.own 0 oM) (by first | exact e0 | rfl)
   go_wp2_with (at_builtin;refine wpList_append_own_at _ rfl _ _ 25 rfl (g+1) 53 iN (.agg #[nI 0,nI 0,.string ⟨#[]⟩,nI 0,nI 0,nI 0]) 6 56 Tryz.underlying25 i8 j0 i9 i6 rfl dC _ _ _ rfl (O3.o.alloc _) ⟨Y2.heap.size,0,none⟩ 1 1 [nI n.depth,nI n.kind,.string n.name,nI n.num,nI n.op,nI n.pos] rfl rfl ?z3a ?z3b ?z3c ?z3d ?z3e ?_)
   case z3a =>
    intro j u d
    match j,d with
    | 0,d=>simp at d;subst d;simp[Addr.add,go_sem]
    | 1,d=>simp at d;subst d;simp[Addr.add,go_sem]
    | 2,d=>simp at d;subst d;simp[Addr.add,go_sem]
    | 3,d=>simp at d;subst d;simp[Addr.add,go_sem]
    | 4,d=>simp at d;subst d;simp[Addr.add,go_sem]
    | 5,d=>simp at d;subst d;simp[Addr.add,go_sem]
   case z3b=>intro u X;simp at X;rcases X with rfl | rfl | rfl | rfl | rfl | rfl<;>rfl
   case z3c=>simp[maxLen];have:=G.o;omega
   case z3d=>have:=G.o;omega
   case z3e=>have:=d6.o.own.lt;simp at this ⊢;omega
   intro u3 X3 h7 h2 _ g3;obtain⟨b3,q3,rfl⟩:=za0 h7;have g8:Hi _:=(d6.o.below ((Below.refl _ _).alloc (aK _) _)).apq (k:=0) oM (by first | exact e0 | rfl) h2 h7 (by first | exact g3 | simpa using g3);have k9:Hi _:=g8.o.1;clear O3 h7 h2 g3;clear L K O J I R d0 d1 d2 d3 d4 d5 wm Y ql Z qg;obtain⟨Y,ql,Z,qg,L,K,O,J,I,R,wm,d0,d1,d2,d3,d4,d5⟩:=k9.o.as (y2:=.slice b1 (l.ar.length+1) q1) e0 e1 rfl e3 e4 e5;have O4:Hi ((X3.setCell (aD g 0) (Value.slice b3 (i+1) q3)).ownsRow (g+1) 3 1 (Value.slice a3 l.sy.length k3) l.sy.length (l.sy.map (λs=>Value.int .i64 s))):=zf3 (g8.o.2.own.own 3 oM) (by first | exact e3 | rfl)
   go_wp2_with (at_builtin;refine wpList_append_own_at _ rfl _ _ 28 rfl (g+1) 3 iI (nI 0) 1 8 Tryz.underlying28 f3 f5 f7 f4 rfl dC _ _ _ rfl (O4.o.alloc _) ⟨X3.heap.size,0,none⟩ 1 1 [nI l.ar.length] rfl rfl ?z4a ?z4b ?z4c ?z4d ?z4e ?_)
   case z4a =>
    intro j u d
    match j,d with
    | 0,d=>simp at d;subst d;simp[Addr.add,go_sem]
   case z4b=>intro u X;simp at X;subst X;rfl
   case z4c=>simp[maxLen];have:=G.o;omega
   case z4d=>have:=G.o;omega
   case z4e=>have:=g8.o.2.own.lt;simp at this ⊢;omega
   intro u4 X4 c9 c8 _ a6;obtain⟨b4,q4,rfl⟩:=za0 c9;have b0:Hi _:=(g8.o.2.below ((Below.refl _ _).alloc (aK _) _)).apq (k:=3) oM (by first | exact e3 | rfl) c8 c9 (by first | exact a6 | simpa using a6);have g7:Hi _:=b0.o.1;clear O4 c9 c8 a6;clear L K O J I R d0 d1 d2 d3 d4 d5 wm Y ql Z qg;obtain⟨Y,ql,Z,qg,L,K,O,J,I,R,wm,d0,d1,d2,d3,d4,d5⟩:=g7.o.as (y0:=.slice b3 (i+1) q3) (y2:=.slice b1 (l.ar.length+1) q1) rfl e1 rfl e3 e4 e5;have O5:Hi ((X4.setCell (aD g 3) (Value.slice b4 (l.sy.length+1) q4)).ownsRow (g+1) 3 1 (Value.slice a5 l.so.length k5) l.so.length (l.so.map (λs=>Value.int .i64 s))):=zf3 (b0.o.2.own.own 5 oM) (by first | exact e5 | rfl)
   go_wp2_with (at_builtin;refine wpList_append_own_at _ rfl _ _ 28 rfl (g+1) 3 iI (nI 0) 1 8 Tryz.underlying28 f3 f5 f7 f4 rfl dC _ _ _ rfl (O5.o.alloc _) ⟨X4.heap.size,0,none⟩ 1 1 [nI (-1)] rfl rfl ?z5a ?z5b ?z5c ?z5d ?z5e ?_)
   case z5a =>
    intro j u d
    match j,d with
    | 0,d=>simp at d;subst d;simp[Addr.add,go_sem]
   case z5b=>intro u X;simp at X;subst X;rfl
   case z5c=>simp[maxLen];have:=G.o;omega
   case z5d=>have:=G.o;omega
   case z5e=>have:=b0.o.2.own.lt;simp at this ⊢;omega
   intro u5 X5 b9 a7 _ W;obtain⟨b5,q5,rfl⟩:=za0 b9;have a8:Hi _:=(b0.o.2.below ((Below.refl _ _).alloc (aK _) _)).apq (k:=5) oM (by first | exact e5 | rfl) a7 b9 (by first | exact W | simpa using W);have g2:Hi _:=a8.o.1;clear O5 b9 a7 W;clear L K O J I R d0 d1 d2 d3 d4 d5 wm Y ql Z qg;obtain⟨Y,ql,Z,qg,L,K,O,J,I,R,wm,d0,d1,d2,d3,d4,d5⟩:=g2.o.as (y0:=.slice b3 (i+1) q3) (y2:=.slice b1 (l.ar.length+1) q1) (y3:=.slice b4 (l.sy.length+1) q4) rfl e1 rfl rfl e4 e5;have HQ:Hi _:=a8.o.2;go_wp2_with fail;go_roundw
   case rel =>
    refine⟨i+1,BD ns i n l,(AU (AU (AU (AU v 2 (Value.slice b1 (l.ar.length+1) q1)) 0 (Value.slice b3 (i+1) q3)) 3 (Value.slice b4 (l.sy.length+1) q4)) 5 (Value.slice b5 (l.so.length+1) q5)),oM,by go_num,g5,HQ.o.hb,HQ.o.six,HQ.o.own.congr (λk hk=>rfl) (λk hk=>?_) (λk hk=>?_),?_⟩
    ·have:k=0\/k=1\/k=2\/k=3\/k=4\/k=5:=oM
     rcases this with rfl | rfl | rfl | rfl | rfl | rfl<;>simp[AU,nOf,BD,j2.o,c6.o,D]
    ·have:k=0\/k=1\/k=2\/k=3\/k=4\/k=5:=oM
     rcases this with rfl | rfl | rfl | rfl | rfl | rfl<;>simp[AU,xOf,BD,zh0 ns i a9,h3.o,AQ,j2.o,c6.o,D]
    have:=G.o;unfold Hi;simp[BD,j2.o,c6.o,D];omega
   case measure=>simp[intOf];omega
  have m6:(n.kind==0)=false:=by rw[aF];exact i3
  have g6:(n.kind==1)=false:=by rw[aF];exact i0
  have HZ:Hi (¬n.kind=0/\¬n.kind=1):=⟨i3,i0⟩;clear i3 i0;obtain⟨nm,f0⟩:∃x,BB n=x:=⟨_,rfl⟩
  have l7:nm=0\/nm=1\/nm=2:=by
   rw[<-f0];unfold BB;repeat' split
   all_goals simp
  rcases l7 with rfl | rfl | rfl
  ·cases D:BR n
   ·go_wp2_with fail
    refine mq (zh1 n f0 _) λY1 d8=>?_;have f9:Hi _:=g4.o.below d8;clear d8;clear L K O J I R j1 m0 m1 m2 m3 m4 m5 h6 h5 i1;obtain⟨Y,ql,Z,qg,L,K,O,J,I,R,wm,d0,d1,d2,d3,d4,d5⟩:=f9.o.mid.as e0 e1 e2 e3 e4 e5;go_wp2_with fail;refine mq (zh1 n f0 _) λY2 c7=>?_;have d6:Hi _:=f9.o.below c7;clear c7;clear L K O J I R d0 d1 d2 d3 d4 d5 wm Y ql Z qg;obtain⟨Y,ql,Z,qg,L,K,O,J,I,R,wm,d0,d1,d2,d3,d4,d5⟩:=d6.o.mid.as e0 e1 e2 e3 e4 e5;go_wp2_with fail;refine mq (zk1 n D _) λY3 f8=>?_;have f6:Hi _:=d6.o.below f8;clear f8;clear L K O J I R d0 d1 d2 d3 d4 d5 wm Y ql Z qg;obtain⟨Y,ql,Z,qg,L,K,O,J,I,R,wm,d0,d1,d2,d3,d4,d5⟩:=f6.o.mid.as e0 e1 e2 e3 e4 e5;have c6:Hi (wa8 ns n l = -1):=by unfold Hi wa8;rw[aC HZ.o.1,aC HZ.o.2,aC (by rw[f0];decide),aC (by rw[f0];decide)]
    have O4:Hi (Y3.ownsRow (g+1) 53 6 (Value.slice a0 i k0) i ((ns.take i).flatMap AQ)):=zf3 (f6.o.own.own 0 oM) (by first | exact e0 | rfl)
    go_wp2_with (at_builtin;refine wpList_append_own_at _ rfl _ _ 25 rfl (g+1) 53 iN (.agg #[nI 0,nI 0,.string ⟨#[]⟩,nI 0,nI 0,nI 0]) 6 56 Tryz.underlying25 i8 j0 i9 i6 rfl dC _ _ _ rfl (O4.o.alloc _) ⟨Y3.heap.size,0,none⟩ 1 1 [nI n.depth,nI n.kind,.string n.name,nI n.num,nI n.op,nI n.pos] rfl rfl ?z4a ?z4b ?z4c ?z4d ?z4e ?_)
    case z4a =>
     intro j u d
     match j,d with
     | 0,d=>simp at d;subst d;simp[Addr.add,go_sem]
     | 1,d=>simp at d;subst d;simp[Addr.add,go_sem]
     | 2,d=>simp at d;subst d;simp[Addr.add,go_sem]
     | 3,d=>simp at d;subst d;simp[Addr.add,go_sem]
     | 4,d=>simp at d;subst d;simp[Addr.add,go_sem]
     | 5,d=>simp at d;subst d;simp[Addr.add,go_sem]
    case z4b=>intro u X;simp at X;rcases X with rfl | rfl | rfl | rfl | rfl | rfl<;>rfl
    case z4c=>simp[maxLen];have:=G.o;omega
    case z4d=>have:=G.o;omega
    case z4e=>have:=f6.o.own.lt;simp at this ⊢;omega
    intro u4 X4 c9 c8 _ a6;obtain⟨b4,q4,rfl⟩:=za0 c9;have b0:Hi _:=(f6.o.below ((Below.refl _ _).alloc (aK _) _)).apq (k:=0) oM (by first | exact e0 | rfl) c8 c9 (by first | exact a6 | simpa using a6);have g7:Hi _:=b0.o.1;clear O4 c9 c8 a6;clear L K O J I R d0 d1 d2 d3 d4 d5 wm Y ql Z qg;obtain⟨Y,ql,Z,qg,L,K,O,J,I,R,wm,d0,d1,d2,d3,d4,d5⟩:=g7.o.as e0 e1 e2 e3 e4 e5;have O5:Hi ((X4.setCell (aD g 0) (Value.slice b4 (i+1) q4)).ownsRow (g+1) 3 1 (Value.slice a3 l.sy.length k3) l.sy.length (l.sy.map (λs=>Value.int .i64 s))):=zf3 (b0.o.2.own.own 3 oM) (by first | exact e3 | rfl)
    go_wp2_with (at_builtin;refine wpList_append_own_at _ rfl _ _ 28 rfl (g+1) 3 iI (nI 0) 1 8 Tryz.underlying28 f3 f5 f7 f4 rfl dC _ _ _ rfl (O5.o.alloc _) ⟨X4.heap.size,0,none⟩ 1 1 [nI (-1)] rfl rfl ?z5a ?z5b ?z5c ?z5d ?z5e ?_)
    case z5a =>
     intro j u d
     match j,d with
     | 0,d=>simp at d;subst d;simp[Addr.add,go_sem]
    case z5b=>intro u X;simp at X;subst X;rfl
    case z5c=>simp[maxLen];have:=G.o;omega
    case z5d=>have:=G.o;omega
    case z5e=>have:=b0.o.2.own.lt;simp at this ⊢;omega
    intro u5 X5 b9 a7 _ W;obtain⟨b5,q5,rfl⟩:=za0 b9;have a8:Hi _:=(b0.o.2.below ((Below.refl _ _).alloc (aK _) _)).apq (k:=3) oM (by first | exact e3 | rfl) a7 b9 (by first | exact W | simpa using W);have g2:Hi _:=a8.o.1;clear O5 b9 a7 W;clear L K O J I R d0 d1 d2 d3 d4 d5 wm Y ql Z qg;obtain⟨Y,ql,Z,qg,L,K,O,J,I,R,wm,d0,d1,d2,d3,d4,d5⟩:=g2.o.as (y0:=.slice b4 (i+1) q4) rfl e1 e2 e3 e4 e5;have O6:Hi ((X5.setCell (aD g 3) (Value.slice b5 (l.sy.length+1) q5)).ownsRow (g+1) 3 1 (Value.slice a5 l.so.length k5) l.so.length (l.so.map (λs=>Value.int .i64 s))):=zf3 (a8.o.2.own.own 5 oM) (by first | exact e5 | rfl)
    go_wp2_with (at_builtin;refine wpList_append_own_at _ rfl _ _ 28 rfl (g+1) 3 iI (nI 0) 1 8 Tryz.underlying28 f3 f5 f7 f4 rfl dC _ _ _ rfl (O6.o.alloc _) ⟨X5.heap.size,0,none⟩ 1 1 [nI (-1)] rfl rfl ?z6a ?z6b ?z6c ?z6d ?z6e ?_)
    case z6a =>
     intro j u d
     match j,d with
     | 0,d=>simp at d;subst d;simp[Addr.add,go_sem]
    case z6b=>intro u X;simp at X;subst X;rfl
    case z6c=>simp[maxLen];have:=G.o;omega
    case z6d=>have:=G.o;omega
    case z6e=>have:=a8.o.2.own.lt;simp at this ⊢;omega
    intro u6 X6 f2 d9 _ b2;obtain⟨b6,q6,rfl⟩:=za0 f2;have f1:Hi _:=(a8.o.2.below ((Below.refl _ _).alloc (aK _) _)).apq (k:=5) oM (by first | exact e5 | rfl) d9 f2 (by first | exact b2 | simpa using b2);have i4:Hi _:=f1.o.1;clear O6 f2 d9 b2;clear L K O J I R d0 d1 d2 d3 d4 d5 wm Y ql Z qg;obtain⟨Y,ql,Z,qg,L,K,O,J,I,R,wm,d0,d1,d2,d3,d4,d5⟩:=i4.o.as (y0:=.slice b4 (i+1) q4) (y3:=.slice b5 (l.sy.length+1) q5) rfl e1 e2 rfl e4 e5;have HQ:Hi _:=f1.o.2;go_wp2_with fail;go_roundw
    case rel =>
     refine⟨i+1,BD ns i n l,(AU (AU (AU v 0 (Value.slice b4 (i+1) q4)) 3 (Value.slice b5 (l.sy.length+1) q5)) 5 (Value.slice b6 (l.so.length+1) q6)),oM,by go_num,g5,HQ.o.hb,HQ.o.six,HQ.o.own.congr (λk hk=>rfl) (λk hk=>?_) (λk hk=>?_),?_⟩
     ·have:k=0\/k=1\/k=2\/k=3\/k=4\/k=5:=oM
      rcases this with rfl | rfl | rfl | rfl | rfl | rfl<;>simp[AU,nOf,BD,HZ.o.1,HZ.o.2,c6.o,D]
     ·have:k=0\/k=1\/k=2\/k=3\/k=4\/k=5:=oM
      rcases this with rfl | rfl | rfl | rfl | rfl | rfl<;>simp[AU,xOf,BD,zh0 ns i a9,h3.o,AQ,HZ.o.1,HZ.o.2,c6.o,D]
     have:=G.o;unfold Hi;simp[BD,HZ.o.1,HZ.o.2,c6.o,D];omega
    case measure=>simp[intOf];omega
   go_wp2_with fail;refine mq (zh1 n f0 _) λY1 d8=>?_;have f9:Hi _:=g4.o.below d8;clear d8;clear L K O J I R j1 m0 m1 m2 m3 m4 m5 h6 h5 i1;obtain⟨Y,ql,Z,qg,L,K,O,J,I,R,wm,d0,d1,d2,d3,d4,d5⟩:=f9.o.mid.as e0 e1 e2 e3 e4 e5;go_wp2_with fail;refine mq (zh1 n f0 _) λY2 c7=>?_;have d6:Hi _:=f9.o.below c7;clear c7;clear L K O J I R d0 d1 d2 d3 d4 d5 wm Y ql Z qg;obtain⟨Y,ql,Z,qg,L,K,O,J,I,R,wm,d0,d1,d2,d3,d4,d5⟩:=d6.o.mid.as e0 e1 e2 e3 e4 e5;go_wp2_with fail;refine mq (zk1 n D _) λY3 f8=>?_;have f6:Hi _:=d6.o.below f8;clear f8;clear L K O J I R d0 d1 d2 d3 d4 d5 wm Y ql Z qg;obtain⟨Y,ql,Z,qg,L,K,O,J,I,R,wm,d0,d1,d2,d3,d4,d5⟩:=f6.o.mid.as e0 e1 e2 e3 e4 e5;have O4:Hi (Y3.ownsRow (g+1) 3 1 (Value.slice a4 l.si.length k4) l.si.length (l.si.map (λs=>Value.int .i64 s))):=zf3 (f6.o.own.own 4 oM) (by first | exact e4 | rfl)
   go_wp2_with (at_builtin;refine wpList_append_own_at _ rfl _ _ 28 rfl (g+1) 3 iI (nI 0) 1 8 Tryz.underlying28 f3 f5 f7 f4 rfl dC _ _ _ rfl (O4.o.alloc _) ⟨Y3.heap.size,0,none⟩ 1 1 [nI (i:Int)] rfl rfl ?z4a ?z4b ?z4c ?z4d ?z4e ?_)
   case z4a =>
    intro j u d
    match j,d with
    | 0,d=>simp at d;subst d;simp[Addr.add,go_sem]
   case z4b=>intro u X;simp at X;subst X;rfl
   case z4c=>simp[maxLen];have:=G.o;omega
   case z4d=>have:=G.o;omega
   case z4e=>have:=f6.o.own.lt;simp at this ⊢;omega
   intro u4 X4 c9 c8 _ a6;obtain⟨b4,q4,rfl⟩:=za0 c9;have b0:Hi _:=(f6.o.below ((Below.refl _ _).alloc (aK _) _)).apq (k:=4) oM (by first | exact e4 | rfl) c8 c9 (by first | exact a6 | simpa using a6);have g7:Hi _:=b0.o.1;clear O4 c9 c8 a6;clear L K O J I R d0 d1 d2 d3 d4 d5 wm Y ql Z qg;obtain⟨Y,ql,Z,qg,L,K,O,J,I,R,wm,d0,d1,d2,d3,d4,d5⟩:=g7.o.as e0 e1 e2 e3 e4 e5;have c6:Hi (wa8 ns n l = -1):=by unfold Hi wa8;rw[aC HZ.o.1,aC HZ.o.2,aC (by rw[f0];decide),aC (by rw[f0];decide)]
   have O5:Hi ((X4.setCell (aD g 4) (Value.slice b4 (l.si.length+1) q4)).ownsRow (g+1) 53 6 (Value.slice a0 i k0) i ((ns.take i).flatMap AQ)):=zf3 (b0.o.2.own.own 0 oM) (by first | exact e0 | rfl)
   go_wp2_with (at_builtin;refine wpList_append_own_at _ rfl _ _ 25 rfl (g+1) 53 iN (.agg #[nI 0,nI 0,.string ⟨#[]⟩,nI 0,nI 0,nI 0]) 6 56 Tryz.underlying25 i8 j0 i9 i6 rfl dC _ _ _ rfl (O5.o.alloc _) ⟨X4.heap.size,0,none⟩ 1 1 [nI n.depth,nI n.kind,.string n.name,nI n.num,nI n.op,nI n.pos] rfl rfl ?z5a ?z5b ?z5c ?z5d ?z5e ?_)
   case z5a =>
    intro j u d
    match j,d with
    | 0,d=>simp at d;subst d;simp[Addr.add,go_sem]
    | 1,d=>simp at d;subst d;simp[Addr.add,go_sem]
    | 2,d=>simp at d;subst d;simp[Addr.add,go_sem]
    | 3,d=>simp at d;subst d;simp[Addr.add,go_sem]
    | 4,d=>simp at d;subst d;simp[Addr.add,go_sem]
    | 5,d=>simp at d;subst d;simp[Addr.add,go_sem]
   case z5b=>intro u X;simp at X;rcases X with rfl | rfl | rfl | rfl | rfl | rfl<;>rfl
   case z5c=>simp[maxLen];have:=G.o;omega
   case z5d=>have:=G.o;omega
   case z5e=>have:=b0.o.2.own.lt;simp at this ⊢;omega
   intro u5 X5 b9 a7 _ W;obtain⟨b5,q5,rfl⟩:=za0 b9;have a8:Hi _:=(b0.o.2.below ((Below.refl _ _).alloc (aK _) _)).apq (k:=0) oM (by first | exact e0 | rfl) a7 b9 (by first | exact W | simpa using W);have g2:Hi _:=a8.o.1;clear O5 b9 a7 W;clear L K O J I R d0 d1 d2 d3 d4 d5 wm Y ql Z qg;obtain⟨Y,ql,Z,qg,L,K,O,J,I,R,wm,d0,d1,d2,d3,d4,d5⟩:=g2.o.as (y4:=.slice b4 (l.si.length+1) q4) e0 e1 e2 e3 rfl e5;have O6:Hi ((X5.setCell (aD g 0) (Value.slice b5 (i+1) q5)).ownsRow (g+1) 3 1 (Value.slice a3 l.sy.length k3) l.sy.length (l.sy.map (λs=>Value.int .i64 s))):=zf3 (a8.o.2.own.own 3 oM) (by first | exact e3 | rfl)
   go_wp2_with (at_builtin;refine wpList_append_own_at _ rfl _ _ 28 rfl (g+1) 3 iI (nI 0) 1 8 Tryz.underlying28 f3 f5 f7 f4 rfl dC _ _ _ rfl (O6.o.alloc _) ⟨X5.heap.size,0,none⟩ 1 1 [nI (-1)] rfl rfl ?z6a ?z6b ?z6c ?z6d ?z6e ?_)
   case z6a =>
    intro j u d
    match j,d with
    | 0,d=>simp at d;subst d;simp[Addr.add,go_sem]
   case z6b=>intro u X;simp at X;subst X;rfl
   case z6c=>simp[maxLen];have:=G.o;omega
   case z6d=>have:=G.o;omega
   case z6e=>have:=a8.o.2.own.lt;simp at this ⊢;omega
   intro u6 X6 f2 d9 _ b2;obtain⟨b6,q6,rfl⟩:=za0 f2;have f1:Hi _:=(a8.o.2.below ((Below.refl _ _).alloc (aK _) _)).apq (k:=3) oM (by first | exact e3 | rfl) d9 f2 (by first | exact b2 | simpa using b2);have i4:Hi _:=f1.o.1;clear O6 f2 d9 b2;clear L K O J I R d0 d1 d2 d3 d4 d5 wm Y ql Z qg;obtain⟨Y,ql,Z,qg,L,K,O,J,I,R,wm,d0,d1,d2,d3,d4,d5⟩:=i4.o.as (y0:=.slice b5 (i+1) q5) (y4:=.slice b4 (l.si.length+1) q4) rfl e1 e2 e3 rfl e5;have O7:Hi ((X6.setCell (aD g 3) (Value.slice b6 (l.sy.length+1) q6)).ownsRow (g+1) 3 1 (Value.slice a5 l.so.length k5) l.so.length (l.so.map (λs=>Value.int .i64 s))):=zf3 (f1.o.2.own.own 5 oM) (by first | exact e5 | rfl)
   go_wp2_with (at_builtin;refine wpList_append_own_at _ rfl _ _ 28 rfl (g+1) 3 iI (nI 0) 1 8 Tryz.underlying28 f3 f5 f7 f4 rfl dC _ _ _ rfl (O7.o.alloc _) ⟨X6.heap.size,0,none⟩ 1 1 [nI l.si.length] rfl rfl ?z7a ?z7b ?z7c ?z7d ?z7e ?_)
   case z7a =>
    intro j u d
    match j,d with
    | 0,d=>simp at d;subst d;simp[Addr.add,go_sem]
   case z7b=>intro u X;simp at X;subst X;rfl
   case z7c=>simp[maxLen];have:=G.o;omega
   case z7d=>have:=G.o;omega
   case z7e=>have:=f1.o.2.own.lt;simp at this ⊢;omega
   intro u7 X7 i2 h1 _ g0;obtain⟨b7,q7,rfl⟩:=za0 i2;have h8:Hi _:=(f1.o.2.below ((Below.refl _ _).alloc (aK _) _)).apq (k:=5) oM (by first | exact e5 | rfl) h1 i2 (by first | exact g0 | simpa using g0);have l2:Hi _:=h8.o.1;clear O7 i2 h1 g0;clear L K O J I R d0 d1 d2 d3 d4 d5 wm Y ql Z qg;obtain⟨Y,ql,Z,qg,L,K,O,J,I,R,wm,d0,d1,d2,d3,d4,d5⟩:=l2.o.as (y0:=.slice b5 (i+1) q5) (y3:=.slice b6 (l.sy.length+1) q6) (y4:=.slice b4 (l.si.length+1) q4) rfl e1 e2 rfl rfl e5;have HQ:Hi _:=h8.o.2;go_wp2_with fail;go_roundw
   case rel =>
    refine⟨i+1,BD ns i n l,(AU (AU (AU (AU v 4 (Value.slice b4 (l.si.length+1) q4)) 0 (Value.slice b5 (i+1) q5)) 3 (Value.slice b6 (l.sy.length+1) q6)) 5 (Value.slice b7 (l.so.length+1) q7)),oM,by go_num,g5,HQ.o.hb,HQ.o.six,HQ.o.own.congr (λk hk=>rfl) (λk hk=>?_) (λk hk=>?_),?_⟩
    ·have:k=0\/k=1\/k=2\/k=3\/k=4\/k=5:=oM
     rcases this with rfl | rfl | rfl | rfl | rfl | rfl<;>simp[AU,nOf,BD,HZ.o.1,HZ.o.2,c6.o,D]
    ·have:k=0\/k=1\/k=2\/k=3\/k=4\/k=5:=oM
     rcases this with rfl | rfl | rfl | rfl | rfl | rfl<;>simp[AU,xOf,BD,zh0 ns i a9,h3.o,AQ,HZ.o.1,HZ.o.2,c6.o,D]
    have:=G.o;unfold Hi;simp[BD,HZ.o.1,HZ.o.2,c6.o,D];omega
   case measure=>simp[intOf];omega
  ·have D:BR n=false:=(zw3 n).1 f0
   go_wp2_with fail;refine mq (zh1 n f0 _) λY1 d8=>?_;have f9:Hi _:=g4.o.below d8;clear d8;clear L K O J I R j1 m0 m1 m2 m3 m4 m5 h6 h5 i1;obtain⟨Y,ql,Z,qg,L,K,O,J,I,R,wm,d0,d1,d2,d3,d4,d5⟩:=f9.o.mid.as e0 e1 e2 e3 e4 e5;go_wp2_with fail;refine mq (m9.o _ f9.o.hb) λY2 o0=>?_;subst o0;go_wp2_with fail;refine mq (zk1 n D _) λY3 f8=>?_;have f6:Hi _:=f9.o.below f8;clear f8;clear L K O J I R d0 d1 d2 d3 d4 d5 wm Y ql Z qg;obtain⟨Y,ql,Z,qg,L,K,O,J,I,R,wm,d0,d1,d2,d3,d4,d5⟩:=f6.o.mid.as e0 e1 e2 e3 e4 e5;have c6:Hi (wa8 ns n l=ds):=by unfold Hi wa8;rw[aC HZ.o.1,aC HZ.o.2,aG f0];exact n7.o
   have O4:Hi (Y3.ownsRow (g+1) 53 6 (Value.slice a0 i k0) i ((ns.take i).flatMap AQ)):=zf3 (f6.o.own.own 0 oM) (by first | exact e0 | rfl)
   go_wp2_with (at_builtin;refine wpList_append_own_at _ rfl _ _ 25 rfl (g+1) 53 iN (.agg #[nI 0,nI 0,.string ⟨#[]⟩,nI 0,nI 0,nI 0]) 6 56 Tryz.underlying25 i8 j0 i9 i6 rfl dC _ _ _ rfl (O4.o.alloc _) ⟨Y3.heap.size,0,none⟩ 1 1 [nI n.depth,nI n.kind,.string n.name,nI n.num,nI n.op,nI n.pos] rfl rfl ?z4a ?z4b ?z4c ?z4d ?z4e ?_)
   case z4a =>
    intro j u d
    match j,d with
    | 0,d=>simp at d;subst d;simp[Addr.add,go_sem]
    | 1,d=>simp at d;subst d;simp[Addr.add,go_sem]
    | 2,d=>simp at d;subst d;simp[Addr.add,go_sem]
    | 3,d=>simp at d;subst d;simp[Addr.add,go_sem]
    | 4,d=>simp at d;subst d;simp[Addr.add,go_sem]
    | 5,d=>simp at d;subst d;simp[Addr.add,go_sem]
   case z4b=>intro u X;simp at X;rcases X with rfl | rfl | rfl | rfl | rfl | rfl<;>rfl
   case z4c=>simp[maxLen];have:=G.o;omega
   case z4d=>have:=G.o;omega
   case z4e=>have:=f6.o.own.lt;simp at this ⊢;omega
   intro u4 X4 c9 c8 _ a6;obtain⟨b4,q4,rfl⟩:=za0 c9;have b0:Hi _:=(f6.o.below ((Below.refl _ _).alloc (aK _) _)).apq (k:=0) oM (by first | exact e0 | rfl) c8 c9 (by first | exact a6 | simpa using a6);have g7:Hi _:=b0.o.1;clear O4 c9 c8 a6;clear L K O J I R d0 d1 d2 d3 d4 d5 wm Y ql Z qg;obtain⟨Y,ql,Z,qg,L,K,O,J,I,R,wm,d0,d1,d2,d3,d4,d5⟩:=g7.o.as e0 e1 e2 e3 e4 e5;have O5:Hi ((X4.setCell (aD g 0) (Value.slice b4 (i+1) q4)).ownsRow (g+1) 3 1 (Value.slice a3 l.sy.length k3) l.sy.length (l.sy.map (λs=>Value.int .i64 s))):=zf3 (b0.o.2.own.own 3 oM) (by first | exact e3 | rfl)
   go_wp2_with (at_builtin;refine wpList_append_own_at _ rfl _ _ 28 rfl (g+1) 3 iI (nI 0) 1 8 Tryz.underlying28 f3 f5 f7 f4 rfl dC _ _ _ rfl (O5.o.alloc _) ⟨X4.heap.size,0,none⟩ 1 1 [nI ds] rfl rfl ?z5a ?z5b ?z5c ?z5d ?z5e ?_)
   case z5a =>
    intro j u d
    match j,d with
    | 0,d=>simp at d;subst d;simp[Addr.add,go_sem]
   case z5b=>intro u X;simp at X;subst X;rfl
   case z5c=>simp[maxLen];have:=G.o;omega
   case z5d=>have:=G.o;omega
   case z5e=>have:=b0.o.2.own.lt;simp at this ⊢;omega
   intro u5 X5 b9 a7 _ W;obtain⟨b5,q5,rfl⟩:=za0 b9;have a8:Hi _:=(b0.o.2.below ((Below.refl _ _).alloc (aK _) _)).apq (k:=3) oM (by first | exact e3 | rfl) a7 b9 (by first | exact W | simpa using W);have g2:Hi _:=a8.o.1;clear O5 b9 a7 W;clear L K O J I R d0 d1 d2 d3 d4 d5 wm Y ql Z qg;obtain⟨Y,ql,Z,qg,L,K,O,J,I,R,wm,d0,d1,d2,d3,d4,d5⟩:=g2.o.as (y0:=.slice b4 (i+1) q4) rfl e1 e2 e3 e4 e5;have O6:Hi ((X5.setCell (aD g 3) (Value.slice b5 (l.sy.length+1) q5)).ownsRow (g+1) 3 1 (Value.slice a5 l.so.length k5) l.so.length (l.so.map (λs=>Value.int .i64 s))):=zf3 (a8.o.2.own.own 5 oM) (by first | exact e5 | rfl)
   go_wp2_with (at_builtin;refine wpList_append_own_at _ rfl _ _ 28 rfl (g+1) 3 iI (nI 0) 1 8 Tryz.underlying28 f3 f5 f7 f4 rfl dC _ _ _ rfl (O6.o.alloc _) ⟨X5.heap.size,0,none⟩ 1 1 [nI (-1)] rfl rfl ?z6a ?z6b ?z6c ?z6d ?z6e ?_)
   case z6a =>
    intro j u d
    match j,d with
    | 0,d=>simp at d;subst d;simp[Addr.add,go_sem]
   case z6b=>intro u X;simp at X;subst X;rfl
   case z6c=>simp[maxLen];have:=G.o;omega
   case z6d=>have:=G.o;omega
   case z6e=>have:=a8.o.2.own.lt;simp at this ⊢;omega
   intro u6 X6 f2 d9 _ b2;obtain⟨b6,q6,rfl⟩:=za0 f2;have f1:Hi _:=(a8.o.2.below ((Below.refl _ _).alloc (aK _) _)).apq (k:=5) oM (by first | exact e5 | rfl) d9 f2 (by first | exact b2 | simpa using b2);have i4:Hi _:=f1.o.1;clear O6 f2 d9 b2;clear L K O J I R d0 d1 d2 d3 d4 d5 wm Y ql Z qg;obtain⟨Y,ql,Z,qg,L,K,O,J,I,R,wm,d0,d1,d2,d3,d4,d5⟩:=i4.o.as (y0:=.slice b4 (i+1) q4) (y3:=.slice b5 (l.sy.length+1) q5) rfl e1 e2 rfl e4 e5;have HQ:Hi _:=f1.o.2;go_wp2_with fail;go_roundw
   case rel =>
    refine⟨i+1,BD ns i n l,(AU (AU (AU v 0 (Value.slice b4 (i+1) q4)) 3 (Value.slice b5 (l.sy.length+1) q5)) 5 (Value.slice b6 (l.so.length+1) q6)),oM,by go_num,g5,HQ.o.hb,HQ.o.six,HQ.o.own.congr (λk hk=>rfl) (λk hk=>?_) (λk hk=>?_),?_⟩
    ·have:k=0\/k=1\/k=2\/k=3\/k=4\/k=5:=oM
     rcases this with rfl | rfl | rfl | rfl | rfl | rfl<;>simp[AU,nOf,BD,HZ.o.1,HZ.o.2,c6.o,D]
    ·have:k=0\/k=1\/k=2\/k=3\/k=4\/k=5:=oM
     rcases this with rfl | rfl | rfl | rfl | rfl | rfl<;>simp[AU,xOf,BD,zh0 ns i a9,h3.o,AQ,HZ.o.1,HZ.o.2,c6.o,D]
    have:=G.o;unfold Hi;simp[BD,HZ.o.1,HZ.o.2,c6.o,D];omega
   case measure=>simp[intOf];omega
  have D:BR n=true:=(zw3 n).2 f0;go_wp2_with fail;refine mq (zh1 n f0 _) λY1 d8=>?_;have f9:Hi _:=g4.o.below d8;clear d8;clear L K O J I R j1 m0 m1 m2 m3 m4 m5 h6 h5 i1;obtain⟨Y,ql,Z,qg,L,K,O,J,I,R,wm,d0,d1,d2,d3,d4,d5⟩:=f9.o.mid.as e0 e1 e2 e3 e4 e5;go_wp2_with fail;refine mq (zh1 n f0 _) λY2 c7=>?_;have d6:Hi _:=f9.o.below c7;clear c7;clear L K O J I R d0 d1 d2 d3 d4 d5 wm Y ql Z qg;obtain⟨Y,ql,Z,qg,L,K,O,J,I,R,wm,d0,d1,d2,d3,d4,d5⟩:=d6.o.mid.as e0 e1 e2 e3 e4 e5;go_wp2_with fail;refine mq (m8.o _ d6.o.hb) λY3 n8=>?_;subst n8;go_wp2_with fail;refine mq (zk1 n D _) λY4 k7=>?_;have j7:Hi _:=d6.o.below k7;clear k7;clear L K O J I R d0 d1 d2 d3 d4 d5 wm Y ql Z qg;obtain⟨Y,ql,Z,qg,L,K,O,J,I,R,wm,d0,d1,d2,d3,d4,d5⟩:=j7.o.mid.as e0 e1 e2 e3 e4 e5;have O5:Hi (Y4.ownsRow (g+1) 3 1 (Value.slice a4 l.si.length k4) l.si.length (l.si.map (λs=>Value.int .i64 s))):=zf3 (j7.o.own.own 4 oM) (by first | exact e4 | rfl)
  go_wp2_with (at_builtin;refine wpList_append_own_at _ rfl _ _ 28 rfl (g+1) 3 iI (nI 0) 1 8 Tryz.underlying28 f3 f5 f7 f4 rfl dC _ _ _ rfl (O5.o.alloc _) ⟨Y4.heap.size,0,none⟩ 1 1 [nI (i:Int)] rfl rfl ?z5a ?z5b ?z5c ?z5d ?z5e ?_)
  case z5a =>
   intro j u d
   match j,d with
   | 0,d=>simp at d;subst d;simp[Addr.add,go_sem]
  case z5b=>intro u X;simp at X;subst X;rfl
  case z5c=>simp[maxLen];have:=G.o;omega
  case z5d=>have:=G.o;omega
  case z5e=>have:=j7.o.own.lt;simp at this ⊢;omega
  intro u5 X5 b9 a7 _ W;obtain⟨b5,q5,rfl⟩:=za0 b9;have a8:Hi _:=(j7.o.below ((Below.refl _ _).alloc (aK _) _)).apq (k:=4) oM (by first | exact e4 | rfl) a7 b9 (by first | exact W | simpa using W);have g2:Hi _:=a8.o.1;clear O5 b9 a7 W;clear L K O J I R d0 d1 d2 d3 d4 d5 wm Y ql Z qg;obtain⟨Y,ql,Z,qg,L,K,O,J,I,R,wm,d0,d1,d2,d3,d4,d5⟩:=g2.o.as e0 e1 e2 e3 e4 e5;have c6:Hi (wa8 ns n l=da):=by unfold Hi wa8;rw[aC HZ.o.1,aC HZ.o.2,aC (by rw[f0];decide),aG f0];exact o2.o
  have O6:Hi ((X5.setCell (aD g 4) (Value.slice b5 (l.si.length+1) q5)).ownsRow (g+1) 53 6 (Value.slice a0 i k0) i ((ns.take i).flatMap AQ)):=zf3 (a8.o.2.own.own 0 oM) (by first | exact e0 | rfl)
  go_wp2_with (at_builtin;refine wpList_append_own_at _ rfl _ _ 25 rfl (g+1) 53 iN (.agg #[nI 0,nI 0,.string ⟨#[]⟩,nI 0,nI 0,nI 0]) 6 56 Tryz.underlying25 i8 j0 i9 i6 rfl dC _ _ _ rfl (O6.o.alloc _) ⟨X5.heap.size,0,none⟩ 1 1 [nI n.depth,nI n.kind,.string n.name,nI n.num,nI n.op,nI n.pos] rfl rfl ?z6a ?z6b ?z6c ?z6d ?z6e ?_)
  case z6a =>
   intro j u d
   match j,d with
   | 0,d=>simp at d;subst d;simp[Addr.add,go_sem]
   | 1,d=>simp at d;subst d;simp[Addr.add,go_sem]
   | 2,d=>simp at d;subst d;simp[Addr.add,go_sem]
   | 3,d=>simp at d;subst d;simp[Addr.add,go_sem]
   | 4,d=>simp at d;subst d;simp[Addr.add,go_sem]
   | 5,d=>simp at d;subst d;simp[Addr.add,go_sem]
  case z6b=>intro u X;simp at X;rcases X with rfl | rfl | rfl | rfl | rfl | rfl<;>rfl
  case z6c=>simp[maxLen];have:=G.o;omega
  case z6d=>have:=G.o;omega
  case z6e=>have:=a8.o.2.own.lt;simp at this ⊢;omega
  intro u6 X6 f2 d9 _ b2;obtain⟨b6,q6,rfl⟩:=za0 f2;have f1:Hi _:=(a8.o.2.below ((Below.refl _ _).alloc (aK _) _)).apq (k:=0) oM (by first | exact e0 | rfl) d9 f2 (by first | exact b2 | simpa using b2);have i4:Hi _:=f1.o.1;clear O6 f2 d9 b2;clear L K O J I R d0 d1 d2 d3 d4 d5 wm Y ql Z qg;obtain⟨Y,ql,Z,qg,L,K,O,J,I,R,wm,d0,d1,d2,d3,d4,d5⟩:=i4.o.as (y4:=.slice b5 (l.si.length+1) q5) e0 e1 e2 e3 rfl e5;have O7:Hi ((X6.setCell (aD g 0) (Value.slice b6 (i+1) q6)).ownsRow (g+1) 3 1 (Value.slice a3 l.sy.length k3) l.sy.length (l.sy.map (λs=>Value.int .i64 s))):=zf3 (f1.o.2.own.own 3 oM) (by first | exact e3 | rfl)
  go_wp2_with (at_builtin;refine wpList_append_own_at _ rfl _ _ 28 rfl (g+1) 3 iI (nI 0) 1 8 Tryz.underlying28 f3 f5 f7 f4 rfl dC _ _ _ rfl (O7.o.alloc _) ⟨X6.heap.size,0,none⟩ 1 1 [nI da] rfl rfl ?z7a ?z7b ?z7c ?z7d ?z7e ?_)
  case z7a =>
   intro j u d
   match j,d with
   | 0,d=>simp at d;subst d;simp[Addr.add,go_sem]
  case z7b=>intro u X;simp at X;subst X;rfl
  case z7c=>simp[maxLen];have:=G.o;omega
  case z7d=>have:=G.o;omega
  case z7e=>have:=f1.o.2.own.lt;simp at this ⊢;omega
  intro u7 X7 i2 h1 _ g0;obtain⟨b7,q7,rfl⟩:=za0 i2;have h8:Hi _:=(f1.o.2.below ((Below.refl _ _).alloc (aK _) _)).apq (k:=3) oM (by first | exact e3 | rfl) h1 i2 (by first | exact g0 | simpa using g0);have l2:Hi _:=h8.o.1;clear O7 i2 h1 g0;clear L K O J I R d0 d1 d2 d3 d4 d5 wm Y ql Z qg;obtain⟨Y,ql,Z,qg,L,K,O,J,I,R,wm,d0,d1,d2,d3,d4,d5⟩:=l2.o.as (y0:=.slice b6 (i+1) q6) (y4:=.slice b5 (l.si.length+1) q5) rfl e1 e2 e3 rfl e5;have O8:Hi ((X7.setCell (aD g 3) (Value.slice b7 (l.sy.length+1) q7)).ownsRow (g+1) 3 1 (Value.slice a5 l.so.length k5) l.so.length (l.so.map (λs=>Value.int .i64 s))):=zf3 (h8.o.2.own.own 5 oM) (by first | exact e5 | rfl)
  go_wp2_with (at_builtin;refine wpList_append_own_at _ rfl _ _ 28 rfl (g+1) 3 iI (nI 0) 1 8 Tryz.underlying28 f3 f5 f7 f4 rfl dC _ _ _ rfl (O8.o.alloc _) ⟨X7.heap.size,0,none⟩ 1 1 [nI l.si.length] rfl rfl ?z8a ?z8b ?z8c ?z8d ?z8e ?_)
  case z8a =>
   intro j u d
   match j,d with
   | 0,d=>simp at d;subst d;simp[Addr.add,go_sem]
  case z8b=>intro u X;simp at X;subst X;rfl
  case z8c=>simp[maxLen];have:=G.o;omega
  case z8d=>have:=G.o;omega
  case z8e=>have:=h8.o.2.own.lt;simp at this ⊢;omega
  intro u8 X8 k8 k6 _ j3;obtain⟨b8,q8,rfl⟩:=za0 k8;have l5:Hi _:=(h8.o.2.below ((Below.refl _ _).alloc (aK _) _)).apq (k:=5) oM (by first | exact e5 | rfl) k6 k8 (by first | exact j3 | simpa using j3);have n9:Hi _:=l5.o.1;clear O8 k8 k6 j3;clear L K O J I R d0 d1 d2 d3 d4 d5 wm Y ql Z qg;obtain⟨Y,ql,Z,qg,L,K,O,J,I,R,wm,d0,d1,d2,d3,d4,d5⟩:=n9.o.as (y0:=.slice b6 (i+1) q6) (y3:=.slice b7 (l.sy.length+1) q7) (y4:=.slice b5 (l.si.length+1) q5) rfl e1 e2 rfl rfl e5;have HQ:Hi _:=l5.o.2;go_wp2_with fail;go_roundw
  case rel =>
   refine⟨i+1,BD ns i n l,(AU (AU (AU (AU v 4 (Value.slice b5 (l.si.length+1) q5)) 0 (Value.slice b6 (i+1) q6)) 3 (Value.slice b7 (l.sy.length+1) q7)) 5 (Value.slice b8 (l.so.length+1) q8)),oM,by go_num,g5,HQ.o.hb,HQ.o.six,HQ.o.own.congr (λk hk=>rfl) (λk hk=>?_) (λk hk=>?_),?_⟩
   ·have:k=0\/k=1\/k=2\/k=3\/k=4\/k=5:=oM
    rcases this with rfl | rfl | rfl | rfl | rfl | rfl<;>simp[AU,nOf,BD,HZ.o.1,HZ.o.2,c6.o,D]
   ·have:k=0\/k=1\/k=2\/k=3\/k=4\/k=5:=oM
    rcases this with rfl | rfl | rfl | rfl | rfl | rfl<;>simp[AU,xOf,BD,zh0 ns i a9,h3.o,AQ,HZ.o.1,HZ.o.2,c6.o,D]
   have:=G.o;unfold Hi;simp[BD,HZ.o.1,HZ.o.2,c6.o,D];omega
  case measure=>simp[intOf];omega
 have HL:Hi (AA ns=(0,0,l)):=by unfold Hi;rw[HE.o,hr.o,aU oM];rfl
 have d:Hi (i=ns.length):=by unfold Hi;omega
 obtain⟨z1,L,K,O,J,I,R⟩:=HX.o.pc;have wf:=HX.o.warm;have p0:=HO.o.cell 0 oM;have Z:=HO.o.cell 1 oM;have Y:=HO.o.cell 2 oM;have p3:=HO.o.cell 3 oM;have p4:=HO.o.cell 4 oM;have p5:=HO.o.cell 5 oM;obtain⟨a0,k0,e0⟩:=za0 (show wr.ownsRow (g+1) 53 6 (v 0) i _ from HO.o.own 0 oM);obtain⟨a1,k1,e1⟩:=za0 (show wr.ownsRow (g+1) 9 1 (v 1) l.sc.length _ from HO.o.own 1 oM);obtain⟨a2,k2,e2⟩:=za0 (show wr.ownsRow (g+1) 55 2 (v 2) l.ar.length _ from HO.o.own 2 oM);obtain⟨a3,k3,e3⟩:=za0 (show wr.ownsRow (g+1) 3 1 (v 3) l.sy.length _ from HO.o.own 3 oM);obtain⟨a4,k4,e4⟩:=za0 (show wr.ownsRow (g+1) 3 1 (v 4) l.si.length _ from HO.o.own 4 oM);obtain⟨a5,k5,e5⟩:=za0 (show wr.ownsRow (g+1) 3 1 (v 5) l.so.length _ from HO.o.own 5 oM);rw[e0]at p0;rw[e1]at Z;rw[e2]at Y;rw[e3]at p3;rw[e4]at p4;rw[e5]at p5;have h5:¬g=w.heap.size:=by have:=l1;rw[<-HG.o]at this;omega
 have i1:¬w.heap.size=g:=λe=>h5 e.symm;have h6:g<wr.heap.size:=lL_ HO.o.gB HO.o.lt;clear hr;go_wp2_with fail
 try simp only[Exit.inBlock,Exit.then]
 refine bodyPost_ret (zc6 rfl _ _ w.heap.size 30 _ (0,0) _ rfl (zc9 HX.o.heap _ _ _ _ _ _) Tryz.underlying30 rfl Tryz.info30) rfl ?_;rw[HL.o];refine⟨v,by rw[e0,e1,e2,e3,e4,e5];rfl,zc8 HB.o (aK _) _ _ _ _ _ _,λ_=>⟨λk hk=>?_,HO.o.apart⟩,λh'=>(h' rfl).elim⟩;obtain⟨vk,D⟩:∃x,v k=x:=⟨_,rfl⟩;have W:=HO.o.own k hk;rw[D]at W ⊢;have X:=zI9 W (show w.heap.size<g+1 by have:=l1;rw[<-HG.o]at this;omega) (v 0) (v 1) (v 2) (v 3) (v 4) (v 5);rw[e0,e1,e2,e3,e4,e5]at X;rw[<-d.o];exact X
end Go.Proofs.YthoegkcpmgalbaaGreatDoor
