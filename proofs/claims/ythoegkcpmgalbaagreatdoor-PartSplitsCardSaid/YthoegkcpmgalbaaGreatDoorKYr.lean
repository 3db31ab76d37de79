import Derived.Test.YthoegkcpmgalbaaGreatDoorKGe
set_option linter.all false
namespace Go.Proofs.YthoegkcpmgalbaaGreatDoor
open Go.RowKit
variable{B N cap g i j k s:Nat}{V u:Nat->Value}{W w w':World}{Y wd:Nat->List Value}{e:TypeId}{m n:Nat->Nat}{xs ys:List Value}
def rep(n:Nat)(c:List Value):List Value:=(List.replicate n c).flatten
def yJ8(n:Nat)(c:List Value):(rep n c).length=n*c.length:=by simp[rep]
def yJ3(n:Nat)(c:List Value):rep (n+1) c=rep n c++c:=by unfold rep;rw[List.replicate_succ'];simp
def yJ0{n t:Nat}{c:List Value}{u:Value}(o:i<n)(h:c[t]?=some u):(rep n c)[i*c.length+t]?=some u:=by
 obtain⟨m,rfl⟩:∃m,n=i+1+m:=⟨n-i-1,oM⟩;have d:=(aE.1 h).1
 have e:rep (i+1+m) c=rep i c++(c++rep m c):=by unfold rep;rw[show i+1+m=i+(1+m) by omega,<-eE,<-eE,dG,dG];simp
 rw[e,bC (by rw[yJ8];omega),yJ8,iD,aQ d];exact h
def yK5{P:Program}{base:Nat}{t ty:TypeId}{i:TypeInfo}{z r:Value}{size bytes:Nat}(ht:P.underlying t=some (.slice e))(hi:P.info? e=some i)(hz:i.zero=some z)(R:i.size=size)(a4:i.bytes=bytes)
  {v:Value} {n:Nat} (D:w.ownsRow base e size v n xs) {a:Addr} {m c:Nat} {o:List Value} (hl:o.length=m*size) (J:∀j u,o[j]?=some u->w.cell? (a.add j)=some u) (h1:∀u∈o,u.oneCell'=true)
  (a5:n+m<=maxLen) (L:(n+m)*bytes<=140737488355328) (d:(Builtin.append_ #[t,t] ty #[v,.slice (some a) m c]).run P w=.ok r w'):w'.ownsRow base e size v n xs:=by
 subst R a4;have a3:n+m<=9223372036854775807:=by simp only[maxLen]at a5;omega
 rcases D.2 with ⟨rfl,rfl⟩ | ⟨g,cap,G,rfl,X,hg,Z,a1,a2,K⟩
 ·have I:xs=[]:=aW (by simpa using D.1)
  subst I;exact World.ownsRow_nil _ _ _ _
 refine⟨D.1,.inr ⟨g,cap,?_⟩⟩;by_cases I:n+m<=cap
 ·have O:n*i.size+o.length<=G.size:=by rw[hl,a2,<-fJ];exact fX _ I
  rw[run_append_room (P:=P) w t ty e i ht hi g n cap G hg a m c o hl J h1 I O]at d
  injection d with _ d
  subst d;have a6:n*i.size<=G.toList.length:=by rw[gF];omega
  refine⟨_,rfl,X,setRow_heap w g G _ e _ hg,Z,a1,?_,?_⟩
  ·simp only[List.size_toArray,aA,bH,cW,gF]
   omega
  rw[bN,fW (by rw[bH];omega),List.take_take,Nat.min_self];exact K
 have O:∀j u,xs[j]?=some u->w.cell? ((⟨g,0,none⟩:Addr).add j)=some u:=D.cells (g:=g) rfl;rw[run_append_grow (P:=P) w t ty e i z ht hi hz ⟨g,0,none⟩ n cap xs D.1 O a m c o hl J oM oM (growslice_fits oM L)]at d
 injection d with _ d
 subst d;exact⟨G,rfl,X,(Below.heap_alloc w.drew _ _ (za2 hg)).trans hg,Z,a1,a2,K⟩
def yJ6{P:Program}(w:World){X:Array Oper}{L:List Oper}{o:Oper}{a:Act}{Q:Exit->Act->World->Prop}(a1:o.guard=none)(s x:Operand)(t:TypeId)
  (ho:o.op=.call { callee:=.builtin .append,args:=#[s,x],argTypes:=#[t,t] })
  (base:Nat) (e:TypeId) (i:TypeInfo) (z:Value) (size bytes:Nat) (ht:P.underlying t=some (.slice e)) (hi:P.info? e=some i) (hz:i.zero=some z)
  (I:i.size=size) (R:i.bytes=bytes) (a2:z.cells.size=size) (a3:0<size)
  (v:Value) (n:Nat) (xs:List Value) (hs:a.eval s=v) (J:w.ownsRow base e size v n xs)
  (ad:Addr) (m c:Nat) (d:List Value) (hx:a.eval x=.slice (some ad) m c) (hl:d.length=m*size) (G:∀j u,d[j]?=some u->w.cell? (ad.add j)=some u) (h1:∀u∈d,u.oneCell'=true)
  (hm:0<m) (Z:n+m<=maxLen) (D:(n+m)*bytes<=140737488355328) (O:base<=w.heap.size)
  (h:∀g cap w',w'.ownsRow base e size (.slice (sA g 0) (n+m) cap) (n+m) (xs++d)->w.grownBy w' v.ownBlock->(v.ownBlock=some g\/g=w.heap.size)->w'.ownsRow base e size v n xs->wpList P X Q L (a.put o.dst (.slice (sA g 0) (n+m) cap)) w'):wpList P X Q (o::L) a w:=by
 refine wpList_plain a1 λK hK=>?_;obtain⟨g,cap,w',hr,h2,h3,h4,h5⟩:=run_append_lies (P:=P) w t o.type base e i z size bytes ht hi hz I R a2 a3 v n xs J ad m c d hl G h1 hm Z D O w.heap.size rfl;have h6:=yK5 ht hi hz I R J hl G h1 Z D hr;unfold Oper.wp execOp;simp only[ho,resolve,invoke,builtin,Sem.run_bind,Sem.run_pure,Result.andThen_ok,fT,dK,eK,hs,hx,hr];exact hK _ _ (h g cap w' h2 h3 h4 h6)
def FK(N:Nat)(V:Nat->Value):Prop:=∀j j',j<N->j'<N->j≠j'->∀b,(V j).ownBlock=some b->(V j').ownBlock≠some b
def DT {α:Type}(Y:Nat->α)(k:Nat)(x:α)(j:Nat):α:=if j=k then x else Y j
def yI6{α:Type}(Y:Nat->α)(k:Nat)(x:α):DT Y k x k=x:=aG rfl
def yI7{α:Type}(Y:Nat->α)(x:α)(h:j≠k):DT Y k x j=Y j:=aC h
structure MK(W w:World)(B N:Nat)(e:TypeId)(s:Nat)(V:Nat->Value)(n:Nat->Nat)(Y:Nat->List Value):Prop where
 row:∀j,j<N->w.ownsRow B e s (V j) (n j) (Y j)
 bel:Below B W w
 le:B<=W.heap.size
 fr:∀b,b<W.heap.size->(∀j,j<N->(V j).ownBlock≠some b)->w.heap[b]?=W.heap[b]?
def MK.put(h:MK W w B N e s V n Y)(X:FK N V)(G:k<N)(o:V k=.slice (sA g 0) (n k) cap)(R:i<n k*s)(u:Value):MK W (w.setCell (aD g i) u) B N e s V n (DT Y k ((Y k).set i u)):=by
 have D:=h.row k G;rw[o]at D;have L:=D.lt g rfl;refine⟨λj I=>?_,h.bel.setCell (p:=⟨g,i,none⟩) L.1 u,h.le,λb K J=>?_⟩
 ·by_cases d:j=k
  ·subst d
   rw[yI6,o];exact zA1 D u R
  rw[yI7 _ _ d];exact zc7 (h.row j I) (p:=⟨g,i,none⟩) (X k j G I (λO=>d O.symm) g (by rw[o];rfl)) u
 exact(Below.heap_setCell _ _ _ _ (λd=>J k G (by rw[o,d];rfl))).trans (h.fr b K J)
def yJ1{l:List Value}(d:i<l.length)(u:Value):(l.set i u).take (i+1)=l.take i++[u]:=by rw[cN (by simpa using d),List.take_set_of_le (aK _)];simp
def yL1{l:List Value}(d:i+1<l.length)(u v:Value):((l.set i u).set (i+1) v).take (i+2)=l.take i++[u,v]:=by rw[yJ1 (by simpa using d),yJ1 oM];simp
structure GW(W w:World)(B N:Nat)(e:TypeId)(s:Nat)(wd:Nat->List Value)(V:Nat->Value)(n:Nat->Nat)(u:Nat->Value)(m:Nat->Nat):Prop where
 row:∀j,j<N->w.ownsRow B e s (u j) (m j) (rep (m j) (wd j))
 old:∀j,j<N->w.ownsRow B e s (V j) (n j) (rep (n j) (wd j))
 ge:∀j,j<N->n j<=m j
 loc:∀j,j<N->(u j).ownBlock=(V j).ownBlock\/∃b,(u j).ownBlock=some b/\W.heap.size<=b
 ds:FK N u
 d0:FK N V
 lt:∀j,j<N->∀b,(V j).ownBlock=some b->b<W.heap.size
 bel:Below B W w
 le:B<=W.heap.size
 fr:∀b,b<W.heap.size->(∀j,j<N->(V j).ownBlock≠some b)->w.heap[b]?=W.heap[b]?
def MK.gw(h:MK W w B N e s V n Y)(D:FK N V)(o:∀j,j<N->∀b,(V j).ownBlock=some b->b<W.heap.size)(G:∀j,j<N->Y j=rep (n j) (wd j)):GW W w B N e s wd V n V n :=
 ⟨λj d=>G j d ▸ h.row j d,λj d=>G j d ▸ h.row j d,λj _=>nR_ _,λj _=>.inl rfl,D,D,o,h.bel,h.le,h.fr⟩
def GW.call(h:GW W w B N e s wd V n u m)(d:Ok w w'):GW W w' B N e s wd V n u m :=
 { h with
  row:=λj o=>za1 (h.row j o) d
  old:=λj o=>za1 (h.old j o) d
  bel:=h.bel.trans (Below.mono d (aH h.le h.bel.size))
  fr:=λb D G=>(Below.block d b (lL_ D h.bel.size)).trans (h.fr b D G) }
def GW.grow{s':Nat}{L:TypeId}{K:Value}(h:GW W w B N e s wd V n u m)(I:w.ownsRow W.heap.size L s' K k ys)(J:e≠L)(o:w.grownBy w' K.ownBlock):GW W w' B N e s wd V n u m :=
 have R:=h.bel.size;have D:∀b,b<W.heap.size->w'.heap[b]?=w.heap[b]?:=λb D=>o.block b oM (λd=>by have:=(I.lt b d.symm).1;omega)
 { h with
  row:=λj G=>zd6 (h.row j G) I J o
  old:=λj G=>zd6 (h.old j G) I J o
  bel:=⟨o.os.trans h.bel.os,o.tape.trans h.bel.tape,o.output.trans h.bel.output,aH R o.size,λb d=>(D b (lL_ d h.le)).trans (h.bel.block b d)⟩
  fr:=λb d O=>(D b d).trans (h.fr b d O) }
def yK0{B' n m cap':Nat}(Z:0<s)(h:w.ownsRow B e s (.slice (sA g 0) n cap) n xs)(R:w.ownsRow B' e s (.slice (sA g 0) m cap') m ys):cap=cap':=by
 rcases h.2 with ⟨D,_⟩ | ⟨g1,I,J,D,_,X,_,_,O,_⟩
 ·cases D
 rcases R.2 with ⟨o,_⟩ | ⟨g2,G,L,o,_,d,_,_,K,_⟩
 ·cases o
 injection D with a1 _ a3
 injection a1 with a1
 injection a1 with a1 _ _
 injection o with b1 _ b3
 injection b1 with b1
 injection b1 with b1 _ _
 subst a1 b1 a3 b3;rw[X]at d
 injection d with d
 injection d with d _
 subst d;rw[O]at K;exact Nat.eq_of_mul_eq_mul_right Z K
def yJ7{n m:Nat}(c:List Value)(h:n<=m):rep m c=rep n c++rep (m-n) c:=by unfold rep;rw[<-dG,eE,show n+(m-n)=m by omega]
def GW.app(h:GW W w B N e s wd V n u m)(hs:0<s)(a4:∀j,(wd j).length=s)(hj:j<N)
  (h1:w'.ownsRow B e s (.slice (sA g 0) (m j+1) cap) (m j+1) (rep (m j) (wd j)++wd j)) (I:w.grownBy w' (u j).ownBlock) (h3:(u j).ownBlock=some g\/g=w.heap.size) (h4:w'.ownsRow B e s (u j) (m j) (rep (m j) (wd j))) :
  GW W w' B N e s wd V n (DT u j (.slice (sA g 0) (m j+1) cap)) (DT m j (m j+1)):=by
 have hz:=h.bel.size
 have a1:∀b,b<W.heap.size->(∀o,o<N->(V o).ownBlock=some b->o≠j)->some b≠(u j).ownBlock:=λb D hn e=>by
  rcases h.loc j hj with l | ⟨b',l,l2⟩
  ·exact hn j hj (by rw[<-l];exact e.symm) rfl
  rw[l]at e;have:=aI e;omega
 refine⟨λo d=>?_,λo d=>?_,λo d=>?_,λo d=>?_,λj1 Z a5 K a3 b D=>?_,h.d0,h.lt,?_,h.le,λb D hn=>?_⟩
 ·by_cases e:o=j
  ·subst e;rw[yI6,yI6,yJ3];exact h1
  rw[yI7 _ _ e,yI7 _ _ e];exact zb4 (h.row o d) λb D=>I.block b ((h.row o d).lt b D).2 (λG=>h.ds o j d hj e b D G.symm)
 ·by_cases e:o=j
  ·subst e
   by_cases L:(u o).ownBlock=(V o).ownBlock
   ·by_cases a6:n o=0
    ·obtain⟨ao,cp,e1⟩:=za0 (h.old o d)
     cases D:(V o).ownBlock with
     | none=>exact zb4 (h.old o d) λb J=>by rw[D]at J;cases J
     | some b =>
      have R:∃cp,u o=.slice (sA b 0) (m o) cp:=by
       rcases(h.row o d).2 with ⟨J,_⟩ | ⟨g',O,a2,J,_⟩
       ·rw[J,D]at L;cases L
       rw[J,D]at L;have:g'=b:=aI L;exact⟨O,by rw[J,this]⟩
      have X:∃cp,V o=.slice (sA b 0) (n o) cp:=by
       rcases(h.old o d).2 with ⟨J,_⟩ | ⟨g',O,a2,J,_⟩
       ·rw[J]at D;cases D
       rw[J]at D;have:g'=b:=aI D;exact⟨O,by rw[J,this]⟩
      obtain⟨cu,R⟩:=R;obtain⟨cv,X⟩:=X;have r1:=h.row o d;have r2:=h.old o d;rw[R]at r1 h4;rw[X]at r2 ⊢;rw[yK0 hs r2 r1];refine yj8 (ys:=rep (m o-n o) (wd o)) (m:=m o) ?_ (by rw[yJ8,a4]) (h.ge o d);rw[<-yJ7 _ (h.ge o d)];exact h4
    obtain⟨b,cv,X,_⟩:=(h.old o d).form oM;obtain⟨b',cu,R,_⟩:=(h.row o d).form (oH (h.ge o d));have:b'=b:=by rw[R,X]at L;exact aI L
    subst this;have r1:=h.row o d;have r2:=h.old o d;rw[R]at r1 h4;rw[X]at r2 ⊢;rw[yK0 hs r2 r1];refine yj8 (ys:=rep (m o-n o) (wd o)) (m:=m o) ?_ (by rw[yJ8,a4]) (h.ge o d);rw[<-yJ7 _ (h.ge o d)];exact h4
   exact zb4 (h.old o d) λb D=>I.block b ((h.old o d).lt b D).2 (λG=>L (by rw[<-G,D]))
  exact zb4 (h.old o d) λb D=>I.block b ((h.old o d).lt b D).2 (a1 b (h.lt o d b D) λZ K G L=>by subst L;exact h.d0 o Z d K e b D G)
 ·by_cases e:o=j
  ·subst e;rw[yI6];have:=h.ge o d;omega
  rw[yI7 _ _ e];exact h.ge o d
 ·by_cases e:o=j
  ·subst e
   rw[yI6];rcases h3 with h3 | h3
   ·rcases h.loc o d with l | l
    ·left;rw[<-l,h3];rfl
    right;rw[h3]at l;exact l
   right;exact⟨g,rfl,oM⟩
  rw[yI7 _ _ e];exact h.loc o d
 ·have J:∀o,o<N->o≠j->(u o).ownBlock≠some g:=λo d e G=>by
   rcases h3 with h3 | h3
   ·exact h.ds o j d hj e g G h3
   have:=((h.row o d).lt g G).2;omega
  by_cases e1:j1=j
  ·subst e1
   have G:Z≠j1:=λe=>a3 e.symm;rw[yI6]at D;rw[yI7 _ _ G];have:g=b:=aI D;subst this;exact J Z K G
  by_cases G:Z=j
  ·subst G
   rw[yI7 _ _ e1]at D;rw[yI6];intro L;have:g=b:=aI L;subst this;exact J j1 a5 e1 D
  rw[yI7 _ _ e1]at D;rw[yI7 _ _ G];exact h.ds j1 Z a5 K a3 b D
 ·exact⟨I.os.trans h.bel.os,I.tape.trans h.bel.tape,I.output.trans h.bel.output,aH hz I.size,λb D=>(I.block b (lL_ D (aH h.le hz)) (λe=>by have:=((h.row j hj).lt b e.symm).1;omega)).trans (h.bel.block b D)⟩
 exact(I.block b (lL_ D hz) (a1 b D λo d e=>absurd e (hn o d))).trans (h.fr b D hn)
def yI8{n:Nat}(h:w.ownsRow B e s (.slice (sA g 0) n cap) n xs)(o:Nat):w.frozen? (aD g o)=false:=by
 rcases h.2 with ⟨D,_⟩ | ⟨J,G,I,D,_,d,_⟩
 ·cases D
 injection D with e5 _ _
 injection e5 with e5
 injection e5 with e5
 rw[<-e5]at d;exact frozen_of_row _ _ _ _ _ d
def yI9{ops:Array Oper}{D:List Oper}{R:Oper}{a:Act}{Q:Exit->Act->World->Prop}(a1:R.guard=none)(s x:Operand)(X I:TypeId)(o d:Nat)(z:Value)
  (ho:R.op=.call { callee:=.builtin .append,args:=#[s,x],argTypes:=#[X,X] })
  (K:Tryz.prog.underlying X=some (.slice I)) (O:(Tryz.prog.info? I).map (λi=>(i.zero,i.size,i.bytes))=some (some z,o,d)) (a3:z.cells.size=o) (a4:0<o) (a5:0<d)
  (base:Nat) (J:Value) (k:Nat) (ys:List Value) (hs:a.eval s=J) (L:w.ownsRow base I o J k ys) (b:Nat) (xs:List Value) (hx:a.eval x=.slice (sA b 0) 1 1) (hl:xs.length=1*o) (hr:∀j u,xs[j]?=some u->w.cell? ((⟨b,0,none⟩:Addr).add j)=some u) (h1:∀u∈xs,u.oneCell'=true)
  (hb:(k+1)*d<=140737488355328) (G:base<=w.heap.size)
  (h:∀g cap w',w'.ownsRow base I o (.slice (sA g 0) (k+1) cap) (k+1) (ys++xs)->w.grownBy w' J.ownBlock->(J.ownBlock=some g\/g=w.heap.size)->w'.ownsRow base I o J k ys->wpList Tryz.prog ops Q D (a.put R.dst (.slice (sA g 0) (k+1) cap)) w'):wpList Tryz.prog ops Q (R::D) a w:=by
 obtain⟨i,hi,hz,a2,Z⟩:=zg6 O;exact yJ6 w a1 s x X ho base I i z o d K hi hz a2 Z a3 a4 J k ys hs L ⟨b,0,none⟩ 1 1 xs hx hl hr h1 dC (by have:=dT (k+1) a5;unfold maxLen;omega) hb G h
structure MR(W w:World)(B N:Nat)(e:Nat->TypeId)(s:Nat->Nat)(V:Nat->Value)(n:Nat->Nat)(Y:Nat->List Value):Prop where
 row:∀j,j<N->w.ownsRow B (e j) (s j) (V j) (n j) (Y j)
 bel:Below B W w
 le:B<=W.heap.size
 fr:∀b,b<W.heap.size->(∀j,j<N->(V j).ownBlock≠some b)->w.heap[b]?=W.heap[b]?
def MR.put{s:Nat->Nat}{e:Nat->TypeId}(h:MR W w B N e s V n Y)(X:FK N V)(G:k<N)(o:V k=.slice (sA g 0) (n k) cap)(R:i<n k*s k)(u:Value):MR W (w.setCell (aD g i) u) B N e s V n (DT Y k ((Y k).set i u)):=by
 have D:=h.row k G;rw[o]at D;have L:=D.lt g rfl;refine⟨λj I=>?_,h.bel.setCell (p:=⟨g,i,none⟩) L.1 u,h.le,λb K J=>?_⟩
 ·by_cases d:j=k
  ·subst d
   rw[yI6,o];exact zA1 D u R
  rw[yI7 _ _ d];exact zc7 (h.row j I) (p:=⟨g,i,none⟩) (X k j G I (λO=>d O.symm) g (by rw[o];rfl)) u
 exact(Below.heap_setCell _ _ _ _ (λd=>J k G (by rw[o,d];rfl))).trans (h.fr b K J)
structure GR(W w:World)(B N:Nat)(e:Nat->TypeId)(s:Nat->Nat)(wd:Nat->List Value)(V:Nat->Value)(n:Nat->Nat)(u:Nat->Value)(m:Nat->Nat):Prop where
 row:∀j,j<N->w.ownsRow B (e j) (s j) (u j) (m j) (rep (m j) (wd j))
 old:∀j,j<N->w.ownsRow B (e j) (s j) (V j) (n j) (rep (n j) (wd j))
 ge:∀j,j<N->n j<=m j
 loc:∀j,j<N->(u j).ownBlock=(V j).ownBlock\/∃b,(u j).ownBlock=some b/\W.heap.size<=b
 ds:FK N u
 d0:FK N V
 lt:∀j,j<N->∀b,(V j).ownBlock=some b->b<W.heap.size
 bel:Below B W w
 le:B<=W.heap.size
 fr:∀b,b<W.heap.size->(∀j,j<N->(V j).ownBlock≠some b)->w.heap[b]?=W.heap[b]?
def MR.gr{s:Nat->Nat}{e:Nat->TypeId}(h:MR W w B N e s V n Y)(D:FK N V)(o:∀j,j<N->∀b,(V j).ownBlock=some b->b<W.heap.size)(G:∀j,j<N->Y j=rep (n j) (wd j)):GR W w B N e s wd V n V n :=
 ⟨λj d=>G j d ▸ h.row j d,λj d=>G j d ▸ h.row j d,λj _=>nR_ _,λj _=>.inl rfl,D,D,o,h.bel,h.le,h.fr⟩
def GR.call{s:Nat->Nat}{e:Nat->TypeId}(h:GR W w B N e s wd V n u m)(d:Ok w w'):GR W w' B N e s wd V n u m :=
 { h with
  row:=λj o=>za1 (h.row j o) d
  old:=λj o=>za1 (h.old j o) d
  bel:=h.bel.trans (Below.mono d (aH h.le h.bel.size))
  fr:=λb D G=>(Below.block d b (lL_ D h.bel.size)).trans (h.fr b D G) }
def GR.grow{s':Nat}{s:Nat->Nat}{e:Nat->TypeId}{L:TypeId}{K:Value}(h:GR W w B N e s wd V n u m)(I:w.ownsRow W.heap.size L s' K k ys)(J:∀j,e j≠L)(o:w.grownBy w' K.ownBlock):GR W w' B N e s wd V n u m :=
 have R:=h.bel.size;have D:∀b,b<W.heap.size->w'.heap[b]?=w.heap[b]?:=λb D=>o.block b oM (λd=>by have:=(I.lt b d.symm).1;omega)
 { h with
  row:=λj G=>zd6 (h.row j G) I (J j) o
  old:=λj G=>zd6 (h.old j G) I (J j) o
  bel:=⟨o.os.trans h.bel.os,o.tape.trans h.bel.tape,o.output.trans h.bel.output,aH R o.size,λb d=>(D b (lL_ d h.le)).trans (h.bel.block b d)⟩
  fr:=λb d O=>(D b d).trans (h.fr b d O) }
def GR.app{s:Nat->Nat}{e:Nat->TypeId}(h:GR W w B N e s wd V n u m)(hs:∀j,0<s j)(a4:∀j,(wd j).length=s j)(hj:j<N)
  (h1:w'.ownsRow B (e j) (s j) (.slice (sA g 0) (m j+1) cap) (m j+1) (rep (m j) (wd j)++wd j)) (I:w.grownBy w' (u j).ownBlock) (h3:(u j).ownBlock=some g\/g=w.heap.size) (h4:w'.ownsRow B (e j) (s j) (u j) (m j) (rep (m j) (wd j))) :
  GR W w' B N e s wd V n (DT u j (.slice (sA g 0) (m j+1) cap)) (DT m j (m j+1)):=by
 have hz:=h.bel.size
 have a1:∀b,b<W.heap.size->(∀o,o<N->(V o).ownBlock=some b->o≠j)->some b≠(u j).ownBlock:=λb D hn e=>by
  rcases h.loc j hj with l | ⟨b',l,l2⟩
  ·exact hn j hj (by rw[<-l];exact e.symm) rfl
  rw[l]at e;have:=aI e;omega
 refine⟨λo d=>?_,λo d=>?_,λo d=>?_,λo d=>?_,λj1 Z a5 K a3 b D=>?_,h.d0,h.lt,?_,h.le,λb D hn=>?_⟩
 ·by_cases e:o=j
  ·subst e;rw[yI6,yI6,yJ3];exact h1
  rw[yI7 _ _ e,yI7 _ _ e];exact zb4 (h.row o d) λb D=>I.block b ((h.row o d).lt b D).2 (λG=>h.ds o j d hj e b D G.symm)
 ·by_cases e:o=j
  ·subst e
   by_cases L:(u o).ownBlock=(V o).ownBlock
   ·by_cases a6:n o=0
    ·obtain⟨ao,cp,e1⟩:=za0 (h.old o d)
     cases D:(V o).ownBlock with
     | none=>exact zb4 (h.old o d) λb J=>by rw[D]at J;cases J
     | some b =>
      have R:∃cp,u o=.slice (sA b 0) (m o) cp:=by
       rcases(h.row o d).2 with ⟨J,_⟩ | ⟨g',O,a2,J,_⟩
       ·rw[J,D]at L;cases L
       rw[J,D]at L;have:g'=b:=aI L;exact⟨O,by rw[J,this]⟩
      have X:∃cp,V o=.slice (sA b 0) (n o) cp:=by
       rcases(h.old o d).2 with ⟨J,_⟩ | ⟨g',O,a2,J,_⟩
       ·rw[J]at D;cases D
       rw[J]at D;have:g'=b:=aI D;exact⟨O,by rw[J,this]⟩
      obtain⟨cu,R⟩:=R;obtain⟨cv,X⟩:=X;have r1:=h.row o d;have r2:=h.old o d;rw[R]at r1 h4;rw[X]at r2 ⊢;rw[yK0 (hs _) r2 r1];refine yj8 (ys:=rep (m o-n o) (wd o)) (m:=m o) ?_ (by rw[yJ8,a4]) (h.ge o d);rw[<-yJ7 _ (h.ge o d)];exact h4
    obtain⟨b,cv,X,_⟩:=(h.old o d).form oM;obtain⟨b',cu,R,_⟩:=(h.row o d).form (oH (h.ge o d));have:b'=b:=by rw[R,X]at L;exact aI L
    subst this;have r1:=h.row o d;have r2:=h.old o d;rw[R]at r1 h4;rw[X]at r2 ⊢;rw[yK0 (hs _) r2 r1];refine yj8 (ys:=rep (m o-n o) (wd o)) (m:=m o) ?_ (by rw[yJ8,a4]) (h.ge o d);rw[<-yJ7 _ (h.ge o d)];exact h4
   exact zb4 (h.old o d) λb D=>I.block b ((h.old o d).lt b D).2 (λG=>L (by rw[<-G,D]))
  exact zb4 (h.old o d) λb D=>I.block b ((h.old o d).lt b D).2 (a1 b (h.lt o d b D) λZ K G L=>by subst L;exact h.d0 o Z d K e b D G)
 ·by_cases e:o=j
  ·subst e;rw[yI6];have:=h.ge o d;omega
  rw[yI7 _ _ e];exact h.ge o d
 ·by_cases e:o=j
  ·subst e
   rw[yI6];rcases h3 with h3 | h3
   ·rcases h.loc o d with l | l
    ·left;rw[<-l,h3];rfl
    right;rw[h3]at l;exact l
   right;exact⟨g,rfl,oM⟩
  rw[yI7 _ _ e];exact h.loc o d
 ·have J:∀o,o<N->o≠j->(u o).ownBlock≠some g:=λo d e G=>by
   rcases h3 with h3 | h3
   ·exact h.ds o j d hj e g G h3
   have:=((h.row o d).lt g G).2;omega
  by_cases e1:j1=j
  ·subst e1
   have G:Z≠j1:=λe=>a3 e.symm;rw[yI6]at D;rw[yI7 _ _ G];have:g=b:=aI D;subst this;exact J Z K G
  by_cases G:Z=j
  ·subst G
   rw[yI7 _ _ e1]at D;rw[yI6];intro L;have:g=b:=aI L;subst this;exact J j1 a5 e1 D
  rw[yI7 _ _ e1]at D;rw[yI7 _ _ G];exact h.ds j1 Z a5 K a3 b D
 ·exact⟨I.os.trans h.bel.os,I.tape.trans h.bel.tape,I.output.trans h.bel.output,aH hz I.size,λb D=>(I.block b (lL_ D (aH h.le hz)) (λe=>by have:=((h.row j hj).lt b e.symm).1;omega)).trans (h.bel.block b D)⟩
 exact(I.block b (lL_ D hz) (a1 b D λo d e=>absurd e (hn o d))).trans (h.fr b D hn)
end Go.Proofs.YthoegkcpmgalbaaGreatDoor
