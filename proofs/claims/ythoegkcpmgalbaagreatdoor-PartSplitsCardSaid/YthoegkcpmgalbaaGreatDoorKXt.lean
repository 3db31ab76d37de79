import Derived.Test.YthoegkcpmgalbaaGreatDoorKJg
import Derived.Test.YthoegkcpmgalbaaGreatDoorKNc
set_option linter.all false
set_option maxRecDepth 100000
namespace Go.Proofs.YthoegkcpmgalbaaGreatDoor
open Go.RowKit
variable{B b g j k n q s:Nat}{e:TypeId}{l l':Ls}{ns ns':List Nd}{odd:Int}{u:Nat->Value}{w:World}{xs:List Value}
def yL5{v:Value}(h:w.ownsRow B e s v n xs)(D:0<n):∃g cap,v=.slice (sA g 0) n cap/\B<=g:=by
 rcases h.2 with ⟨_,G⟩ | ⟨g,cap,o,d,_⟩
 ·omega
 exact⟨g,cap,d,(h.lt g (by rw[d];rfl)).1⟩
def wl9{cap:Nat}(h:w.ownsRow B e s (.slice (sA g 0) n cap) n xs){u:Value}(d:xs[j]?=some u):w.cell? (aD g j)=some u:=by
 have:=h.cells (g:=g) rfl j u d
 rwa [zb7,aL]at this
def wf7(h:AG w B u ns l)(d:Obj):AG (w.alloc d) B u ns l:=λk o=>World.ownsRow.alloc (h k o) _
def yN5(ha:Apt u){i:Nat}(e:u i=.slice (sA b 0) n q)(o:i<6)(D:j<6)(d:j≠i):(u j).ownBlock≠some b:=by
 rcases ha j i D o d with h | h
 ·rw[h];exact λe=>by cases e
 rw[e]at h;exact h
def wv7(h:AG w B u ns l)(K:Apt u)(e:u 3=.slice (sA b 0) n q)(G:n=l.sy.length)(L:k<n)(y:Int):AG (w.setCell (aD b k) (nI y)) B u ns ⟨l.sc,l.ar,l.sy.set k y,l.si,l.so⟩:=by
 intro j d;have o:∀j,j<6->j≠3->_:=λj d D=>zc7 (h j d) (p:=⟨b,k,none⟩) (yN5 K e dC d D) (nI y)
 match j,d with
 | 0,d=>exact o 0 d dC
 | 1,d=>exact o 1 d dC
 | 2,d=>exact o 2 d dC
 | 4,d=>exact o 4 d dC
 | 5,d=>exact o 5 d dC
 | 3,d =>
  have I:=h 3 d;rw[e,show nOf ns.length l 3=n from G.symm]at I;have J:=zA1 I (j:=k) (nI y) (by show k<n*1;omega);rw[e];show World.ownsRow _ _ 3 1 _ (l.sy.set k y).length ((l.sy.set k y).map λs=>nI s);rw[dN,iR,<-G];exact J
def wv8(h:AG w B u ns l)(K:Apt u)(e:u 5=.slice (sA b 0) n q)(G:n=l.so.length)(L:k<n)(y:Int):AG (w.setCell (aD b k) (nI y)) B u ns ⟨l.sc,l.ar,l.sy,l.si,l.so.set k y⟩:=by
 intro j d;have o:∀j,j<6->j≠5->_:=λj d D=>zc7 (h j d) (p:=⟨b,k,none⟩) (yN5 K e dC d D) (nI y)
 match j,d with
 | 0,d=>exact o 0 d dC
 | 1,d=>exact o 1 d dC
 | 2,d=>exact o 2 d dC
 | 4,d=>exact o 4 d dC
 | 3,d=>exact o 3 d dC
 | 5,d =>
  have I:=h 5 d;rw[e,show nOf ns.length l 5=n from G.symm]at I;have J:=zA1 I (j:=k) (nI y) (by show k<n*1;omega);rw[e];show World.ownsRow _ _ 3 1 _ (l.so.set k y).length ((l.so.set k y).map λs=>nI s);rw[dN,iR,<-G];exact J
def yN6:∀ns:List Nd,(ns.flatMap AQ).length=ns.length*6
 | []=>rfl
 | n::t=>by rw[eV,aA,yN6 t,aR];show 6+_=_;omega
def ws3(h:AG w B u ns l)(e:u 0=.slice (sA b 0) n q)(D:n=ns.length)(K:k<n):AG w B (AU u 0 (.slice (sA b 0) k q)) (ns.take k) l:=by
 intro j d
 match j,d with
 | 1,d=>exact h 1 d
 | 2,d=>exact h 2 d
 | 3,d=>exact h 3 d
 | 4,d=>exact h 4 d
 | 5,d=>exact h 5 d
 | 0,d =>
  have o:=h 0 d;rw[e]at o;have G:(ns.take k).length=k:=by rw[bH];omega
  show World.ownsRow _ _ _ _ (.slice (sA b 0) k q) (ns.take k).length (((ns.take k).take (ns.take k).length).flatMap AQ);rw[cH,G]
  have J:w.ownsRow B (TY 0) (SZ 0) (.slice (sA b 0) n q) n ((ns.take k).flatMap AQ++(ns.drop k).flatMap AQ):=by
   rw[<-fC,dZ,D];have I:(ns.take ns.length).flatMap AQ=ns.flatMap AQ:=by rw[cH]
   rw[D]at o;rw[<-I];exact o
  exact yj8 J (by show _=k*6;rw[yN6,G]) oM
def yM0(ha:Apt u){o:Option Addr}{i:Nat}(e:u i=.slice o n q)(G:j<6)(d:j≠i)(D:i<6:=by decide):(u j).ownBlock=none\/(u j).ownBlock≠(Value.slice o n q).ownBlock:=by
 rcases ha j i G D d with h | h
 ·exact .inl h
 rw[e]at h;exact .inr h
def yL6{t:TypeId}{v:Value}{c:Array Value}{f:Nat×Nat}(h:w.ownsRow B e s v n xs)(d:w.heap[g]?=some (.cells c t f))(o:t≠e):v.ownBlock≠some (⟨g,4,none⟩:Addr).block:=zb6 h d o
def wu7:∀{j:Nat},j<6->(30:Nat)≠TY j
 | 0,_ | 1,_ | 2,_ | 3,_ | 4,_ | 5,_=>by decide
def yP4{c:Array Value}{t:TypeId}(h:w.heap[g]?=some (.cells c t (0,0)))(k:Nat):w.frozen? (aD g k)=false:=by simp[World.frozen?,h]
def wo7(ms:List Nd)(m:Ls)(odd:Int)(ns:List Nd)(l:Ls):Prop :=
 (¬(0<odd/\0<ms.length)/\ns=ms/\l=m)\/((0<odd/\0<ms.length)/\∃k:Nat,odd.tmod (ms.length:Int)=(k:Int)/\((odd.tmod 4=0/\ns=ms/\∃y,m.sy[k]?=some y/\l=⟨m.sc,m.ar,m.sy.set k (wrap64 (y+1)),m.si,m.so⟩)\/(odd.tmod 4=1/\ns=ms/\l=⟨m.sc,m.ar,m.sy,m.si++[(k:Int)],m.so⟩)\/(odd.tmod 4=2/\ns=ms.take k/\l=m)\/(odd.tmod 4=3/\ns=ms/\∃y,m.so[k]?=some y/\l=⟨m.sc,m.ar,m.sy,m.si,m.so.set k (wrap64 (y+1))⟩)))
def wo7.uniq{ms:List Nd}{m:Ls}(h:wo7 ms m odd ns l)(W:wo7 ms m odd ns' l'):ns'=ns/\l'=l:=by
 rcases h with ⟨O,rfl,rfl⟩ | ⟨O,k,Z,h3⟩
 ·rcases W with ⟨_,D,R⟩ | ⟨D,_⟩
  ·exact⟨D,R⟩
  exact absurd D O
 rcases W with ⟨D,_⟩ | ⟨_,Y,R,h6⟩
 ·exact absurd O D
 have e:Y=k:=oH (R.symm.trans Z)
 subst e
 rcases h3 with ⟨K,o,y,X,G⟩ | ⟨K,o,G⟩ | ⟨K,o,G⟩ | ⟨K,o,y,X,G⟩<;>rcases h6 with ⟨I,J,z,L,d⟩ | ⟨I,J,d⟩ | ⟨I,J,d⟩ | ⟨I,J,z,L,d⟩
 all_goals first
  |(exfalso;rw[K]at I;revert I;decide)
  |(subst o G J d;exact⟨rfl,rfl⟩)
  |(rw[X]at L;cases L;subst o G J d;exact⟨rfl,rfl⟩)
def OdP(P:List Nd->Ls->Prop)(N:Prop)(odd:Int)(ns:List Nd)(l:Ls):Prop:=(∃ms m,P ms m/\wo7 ms m odd ns l)\/(N/\ns=[]/\l=ls0)
def PrZ(ms:List Nd)(m:Ls)(odd:Int)(w Z:World)(g:Nat)(v0 v1 v2 v3 v4 v5:Value):Prop:=Z.heap[g]?=some (.cells #[v0,v1,v2,v3,v4,v5] 30 (0,0))/\Six Z w.heap.size (sZ) (sZ) (sZ) (sZ) (sZ) (sZ)/\Ok w Z/\∃(ns:List Nd) (l:Ls) (v:Nat->Value),wo7 ms m odd ns l/\(v 0=v0/\v 1=v1/\v 2=v2/\v 3=v3/\v 4=v4/\v 5=v5)/\AG Z (w.heap.size+1) v ns l/\∀n∈ns,n.Ok
def TxJ(P:List Nd->Ls->Prop)(N:Prop)(Y:World)(e:Ending)(w':World):Prop:=(∃(ns:List Nd) (l:Ls) (u:Nat->Value),P ns l/\e=.returned (.tuple #[.agg #[u 0,u 1,u 2,u 3,u 4,u 5],nI 0,nI 0])/\AG w' Y.heap.size u ns l/\Apt u/\(∀n∈ns,n.Ok)/\l.sy.length=ns.length/\l.so.length=ns.length/\l.si.length<=100000/\ns.length<=300)\/(N/\∃er at0:Int,e=.returned (.tuple #[.agg #[sZ,sZ,sZ,sZ,sZ,sZ],nI er,nI at0]))
def yO9(h:0<odd)(d:0<n):∃k:Nat,odd.tmod (n:Int)=(k:Int)/\k<n :=
 ⟨(odd.tmod (n:Int)).toNat,oH (Int.tmod_nonneg (n:Int) (show 0<=odd by omega)),oK (Int.tmod_nonneg (n:Int) (show 0<=odd by omega)) (Int.tmod_lt_of_pos odd (show(0:Int)<(n:Int) by omega))⟩
set_option maxHeartbeats 8000000 in
def yL2{P:List Nd->Ls->Prop}{N:Prop}(s:ByteArray)(odd:Int)(w:World)(d:∀Y,Ok w Y->Calls Tryz.prog 12 #[.string s] Y λe w'=>TxJ P N Y e w'/\Ok Y w') :
  Calls Tryz.prog 4 #[.string s,nI odd] w λe w'=>∃(ns:List Nd) (l:Ls) (v:Nat->Value),OdP P N odd ns l/\e=.returned (.agg #[v 0,v 1,v 2,v 3,v 4,v 5])/\AG w' w.heap.size v ns l/\(∀n∈ns,n.Ok)/\Ok w w':=by
 have G:=hid d;clear d;go_enter Tryz.func4,Tryz.ntmps4;go_wp2_with fail;refine(G.o _ ((Ok.refl w).alloc _)).mono ?_;rintro e D ⟨ht,d⟩;have HX:Hi (Six D w.heap.size (sZ) (sZ) (sZ) (sZ) (sZ) (sZ)):=(Six.new w _ _ _ _ _ _).below d;have HK:Hi (Ok w D):=((Ok.refl w).alloc _).step d;have d2:=hid HX.o.lt;clear d G;rcases ht with ⟨ns,l,u,d,rfl,X,R,hf,I,J,K,O⟩ | ⟨d7,er,d8,rfl⟩;rotate_left
 ·obtain⟨z1,c0,c1,c2,c3,c4,c5⟩:=HX.o.pc
  have wf:=HX.o.warm;by_cases G:0<odd
  all_goals
   have h1:decide (0<odd)=_:=(by first | exact dT_ G | exact dF_ G);go_wp2_with fail
   try simp only[Exit.inBlock,Exit.then]
   refine bodyPost_ret (results_cell_row rfl _ _ w.heap.size 30 #[_,_,_,_,_,_] (0,0) _ rfl (heap_past _ _ _ (za2 (zc9 HX.o.heap _ _ _ _ _ _)) (zc9 HX.o.heap _ _ _ _ _ _)) Tryz.underlying30 rfl Tryz.info30) rfl ?_;exact⟨[],ls0,λ_=>sZ,.inr ⟨d7,rfl,rfl⟩,rfl,λk W=>(by match k,W with | 0,_ | 1,_ | 2,_ | 3,_ | 4,_ | 5,_=>exact World.ownsRow_nil _ _ _ _),λn L=>(by cases L),(show Ok w _ from zc8 HK.o (nR_ _) _ _ _ _ _ _).alloc _⟩
 have a8:=hid d;clear d;have HU:Hi (AG D (w.heap.size+1) u ns l):=by have:=X;rw[World.size_alloc]at this;exact this
 have HA:Hi (Apt u/\∀n∈ns,n.Ok):=⟨R,hf⟩;have HL:Hi (l.sy.length=ns.length/\l.so.length=ns.length/\l.si.length<=100000/\ns.length<=300):=⟨I,J,K,O⟩;clear X R hf I J K O;obtain⟨o0,R,O⟩:=za0 (HU.o 0 dC);obtain⟨o1,p1,e1⟩:=za0 (HU.o 1 dC);obtain⟨o2,p2,e2⟩:=za0 (HU.o 2 dC);obtain⟨o3,p3,K⟩:=za0 (HU.o 3 dC);obtain⟨o4,p4,e4⟩:=za0 (HU.o 4 dC);obtain⟨o5,p5,e5⟩:=za0 (HU.o 5 dC);obtain⟨n,L⟩:=qq (ns.length);replace O:u 0=.slice o0 n R:=by rw[L];exact O
 replace K:u 3=.slice o3 n p3:=by rw[L,<-HL.o.1];exact K
 replace e5:u 5=.slice o5 n p5:=by rw[L,<-HL.o.2.1];exact e5
 obtain⟨n1,X⟩:=qq (nOf ns.length l 1);obtain⟨n2,J⟩:=qq (nOf ns.length l 2);obtain⟨I,Z⟩:=qq (l.si.length);rw[<-X]at e1;rw[<-J]at e2;replace e4:u 4=.slice o4 I p4:=by rw[Z];exact e4
 have d:Hi (u 0=.slice o0 n R/\u 1=.slice o1 n1 p1/\u 2=.slice o2 n2 p2/\u 3=.slice o3 n p3/\u 4=.slice o4 I p4/\u 5=.slice o5 n p5):=⟨O,e1,e2,K,e4,e5⟩;have HN:Hi (n=ns.length/\I=l.si.length/\n1=nOf ns.length l 1/\n2=nOf ns.length l 2):=⟨L,Z,X,J⟩;rw[O,e1,e2,K,e4,e5];clear O e1 e2 K e4 e5 L X J Z;by_cases G:0<odd;rotate_left
 ·obtain⟨z1,c0,c1,c2,c3,c4,c5⟩:=HX.o.pc
  have wf:=HX.o.warm;have h1:decide (0<odd)=false:=dF_ G;go_wp2_with fail
  try simp only[Exit.inBlock,Exit.then]
  refine bodyPost_ret (results_cell_row rfl _ _ w.heap.size 30 #[_,_,_,_,_,_] (0,0) _ rfl (heap_past _ _ _ (za2 (zc9 HX.o.heap _ _ _ _ _ _)) (zc9 HX.o.heap _ _ _ _ _ _)) Tryz.underlying30 rfl Tryz.info30) rfl ?_;refine⟨ns,l,u,.inl ⟨ns,l,a8.o,.inl ⟨λh=>by have J:=h.1;omega,rfl,rfl⟩⟩,?_,?_,HA.o.2,(show Ok w _ from zc8 HK.o (nR_ _) _ _ _ _ _ _).alloc _⟩
  ·obtain⟨O,e1,e2,K,e4,e5⟩:=d.o
   rw[O,e1,e2,K,e4,e5]
  intro k W;exact World.ownsRow.alloc (zI9 (HU.o k W) oM _ _ _ _ _ _) _
 by_cases L:0<n;rotate_left
 ·obtain⟨z1,c0,c1,c2,c3,c4,c5⟩:=HX.o.pc
  have wf:=HX.o.warm;have h1:decide (0<odd)=true:=dT_ G;obtain rfl:n=0:=oM;go_wp2_with fail
  try simp only[Exit.inBlock,Exit.then]
  refine bodyPost_ret (results_cell_row rfl _ _ w.heap.size 30 #[_,_,_,_,_,_] (0,0) _ rfl (heap_past _ _ _ (za2 (zc9 HX.o.heap _ _ _ _ _ _)) (zc9 HX.o.heap _ _ _ _ _ _)) Tryz.underlying30 rfl Tryz.info30) rfl ?_;refine⟨ns,l,u,.inl ⟨ns,l,a8.o,.inl ⟨λh=>by have:=HN.o.1;omega,rfl,rfl⟩⟩,?_,?_,HA.o.2,(show Ok w _ from zc8 HK.o (nR_ _) _ _ _ _ _ _).alloc _⟩
  ·obtain⟨O,e1,e2,K,e4,e5⟩:=d.o
   rw[O,e1,e2,K,e4,e5]
  intro k W;exact World.ownsRow.alloc (zI9 (HU.o k W) oM _ _ _ _ _ _) _
 have h1:decide (0<odd)=true:=dT_ G;have h2:(0:Int)<(n:Int):=oM;have h3:((n:Int)==0)=false:=by simp;omega
 obtain⟨k,W,a2⟩:=yO9 G L
 have hr:odd.tmod 4=0\/odd.tmod 4=1\/odd.tmod 4=2\/odd.tmod 4=3:=by obtain⟨r,hr,J⟩:∃r:Nat,odd.tmod 4=(r:Int)/\r<4:=yO9 (n:=4) G dC;omega
 have v3:(0:Int)<=(k:Int):=oM;have v4:(k:Int)<(n:Int):=oM;have v5:¬((n:Int)<=(k:Int)):=oM;have a1:Hi ((0<odd/\0<ns.length)/\odd.tmod (ns.length:Int)=(k:Int)):=by rw[<-HN.o.1];exact⟨⟨G,L⟩,W⟩
 clear G;rcases hr with hr | hr | hr | hr
 ·have H3:Hi (D.ownsRow (w.heap.size+1) 3 1 (.slice o3 n p3) n (xOf ns ns.length l 3)):=by
   have h:=HU.o 3 dC;rw[d.o.2.2.2.1,show nOf ns.length l 3=n from HL.o.1.trans HN.o.1.symm]at h;exact h
  obtain⟨J,q3,K,b6⟩:=yL5 H3.o L
  injection K with e _ e'
  subst e e';obtain⟨y,hy⟩:∃y,l.sy[k]?=some y:=⟨_,gG_ (oK HN.o.1 HL.o.1)⟩;have d1:=wl9 H3.o (show(xOf ns ns.length l 3)[k]?=some (nI y) by show(l.sy.map _)[k]?=_;rw[aX,hy];rfl);have lg:=(H3.o.lt J rfl).2;have fr:=yH9 H3.o k;have b1:Hi (_/\_):=And.intro hr hy;clear hy
  go_upto_region 13 with (fail)
  have hs:(D.setCell (aD J k) (nI (wrap64 (y+1)))).heap.size=D.heap.size:=by simp
  have G:Hi (PrZ ns l odd w ((D.setCell (aD J k) (nI (wrap64 (y+1)))).alloc (.cells #[.slice o0 n R,.slice o1 n1 p1,.slice o2 n2 p2,.slice (sA J 0) n p3,.slice o4 I p4,.slice o5 n p5] 30)) D.heap.size (.slice o0 n R) (.slice o1 n1 p1) (.slice o2 n2 p2) (.slice (sA J 0) n p3) (.slice o4 I p4) (.slice o5 n p5)):=by refine⟨by rw[<-hs];exact za3 _ _,(HX.o.kept (Below.heap_setCell _ _ _ _ (by show w.heap.size≠J;omega))).below ((Ok.refl _).alloc _),(HK.o.set (p:=⟨J,k,none⟩) (by show w.heap.size<=J;omega) _).alloc _,ns,_,u,.inr ⟨a1.o.1,k,a1.o.2,.inl ⟨b1.o.1,rfl,y,b1.o.2,rfl⟩⟩,d.o,wf7 (wv7 HU.o HA.o.1 d.o.2.2.2.1 (HN.o.1.trans HL.o.1.symm) a2 _) _,HA.o.2⟩
  clear hs d1 lg fr b6;obtain⟨Z,hZ⟩:=qq (((D.setCell ⟨J,k,none⟩ (nI (wrap64 (y+1)))).alloc (.cells #[.slice o0 n R,.slice o1 n1 p1,.slice o2 n2 p2,.slice (some ⟨J,0,none⟩) n p3,.slice o4 I p4,.slice o5 n p5] 30)));rw[<-hZ]at G ⊢;clear hZ h1 h2 h3 W hr v3 v4 v5 L a2;obtain⟨t0,t1,t2,t3,t4,t5,c7⟩:=CY G.o.1;obtain⟨z1,c0,c1,c2,c3,b7,c5⟩:=G.o.2.1.pc;have wf:=G.o.2.1.warm;go_wp2_with fail
  try simp only[Exit.inBlock,Exit.then]
  refine bodyPost_ret (results_cell_row rfl _ _ w.heap.size 30 #[_,_,_,_,_,_] (0,0) _ rfl (zc9 G.o.2.1.heap _ _ _ _ _ _) Tryz.underlying30 rfl Tryz.info30) rfl ?_;obtain⟨ns',l',v,a3,⟨O,e1,e2,K,e4,e5⟩,hp,hf⟩:=G.o.2.2.2;refine⟨ns',l',v,.inl ⟨ns,l,a8.o,a3⟩,by rw[O,e1,e2,K,e4,e5],λk W=>?_,hf,zc8 G.o.2.2.1 (aK _) _ _ _ _ _ _⟩;exact zI9 (hp k W) oM _ _ _ _ _ _
 ·have H4:Hi (D.ownsRow (w.heap.size+1) 3 1 (.slice o4 I p4) I (xOf ns ns.length l 4)):=by
   have h:=HU.o 4 dC;rw[d.o.2.2.2.2.1,show nOf ns.length l 4=I from HN.o.2.1.symm]at h;exact h
  go_upto_region 8 with (fail)
  obtain⟨Z0,X⟩:=qq (D.alloc (.cells #[.slice o0 n R,.slice o1 n1 p1,.slice o2 n2 p2,.slice o3 n p3,.slice o4 I p4,.slice o5 n p5] 30));rw[<-X];have a7:Hi (Z0.heap[D.heap.size]?=some (.cells #[.slice o0 n R,.slice o1 n1 p1,.slice o2 n2 p2,.slice o3 n p3,.slice o4 I p4,.slice o5 n p5] 30 (0,0))):=by rw[X];exact za3 _ _
  have c9:Hi (Six Z0 w.heap.size (sZ) (sZ) (sZ) (sZ) (sZ) (sZ)):=by rw[X];exact HX.o.below ((Ok.refl _).alloc _)
  have b9:Hi (Ok w Z0):=by rw[X];exact HK.o.alloc _
  have a5:Hi (AG Z0 (w.heap.size+1) u ns l):=by rw[X];exact wf7 HU.o _
  have b2:Hi (Z0.ownsRow (w.heap.size+1) 3 1 (.slice o4 I p4) I (xOf ns ns.length l 4)):=by rw[X];exact World.ownsRow.alloc H4.o _
  have c6:=hid (za2 a7.o);have b5:=hid d2.o;clear X H4 HX HK HU;obtain⟨q0,q1,q2,q3,q4,q5,b8⟩:=CY a7.o
  go_upto_region 13 with (first|(at_builtin;refine ze4 rfl _ _ 28 3 1 8 _ rfl Tryz.underlying28 wb7 (by rfl) (by decide) (by decide) (w.heap.size+1) (.slice o4 I p4) I (xOf ns ns.length l 4) (by rfl) (World.ownsRow.alloc b2.o _) (.slice (sA Z0.heap.size 0) 1 1) 1 [nI (k:Nat)] (by rfl) (SL.one Z0 3 [nI (k:Nat)] rfl (by simp[Value.oneCell'])) (oK HL.o.2.2.1 HN.o.2.1) (by have:=b9.o.le;have:=c6.o;have:=b5.o;simp;omega) ?_;intro v4 Z1 k1 k2;have c8:=hid k1;have a9:=hid k2;have a6:Hi (Z1.heap[D.heap.size]?=some (.cells #[.slice o0 n R,.slice o1 n1 p1,.slice o2 n2 p2,.slice o3 n p3,.slice o4 I p4,.slice o5 n p5] 30 (0,0))):=(k2.block D.heap.size (by have:=c6.o;simp;omega) (λe=>zb6 b2.o a7.o (by decide) e.symm)).trans (heap_past _ _ _ (za2 a7.o) a7.o);obtain⟨a4,c4,rfl⟩:=za0 k1;clear q0 q1 q2 q3 q4 q5 b8 k1 k2;obtain⟨q0,q1,q2,q3,q4,q5,b8⟩:=CY a6.o;have fr:=yP4 a6.o 4)|fail)
  have G:Hi (PrZ ns l odd w (Z1.setCell (aD D.heap.size 4) (.slice a4 (I+1) c4)) D.heap.size (.slice o0 n R) (.slice o1 n1 p1) (.slice o2 n2 p2) (.slice o3 n p3) (.slice a4 (I+1) c4) (.slice o5 n p5)):=by
   have d4:Ok w Z1:=(b9.o.alloc _).grown a9.o (λb e=>by have:=(b2.o.lt b e).1;omega);refine⟨heap_setCell_same _ _ 4 _ _ _ a6.o,?_,d4.set (p:=⟨D.heap.size,4,none⟩) (by have:=b5.o;show w.heap.size<=D.heap.size;omega) _,ns,⟨l.sc,l.ar,l.sy,l.si++[(k:Int)],l.so⟩,AU u 4 (.slice a4 (I+1) c4),.inr ⟨a1.o.1,k,a1.o.2,.inr (.inl ⟨hr,rfl,rfl⟩)⟩,⟨d.o.1,d.o.2.1,d.o.2.2.1,d.o.2.2.2.1,rfl,d.o.2.2.2.2.2⟩,?_,HA.o.2⟩
   ·exact c9.o.kept ((Below.heap_setCell _ _ _ _ (by have:=b5.o;show w.heap.size≠D.heap.size;omega)).trans ((a9.o.block _ (by have:=b5.o;have:=c6.o;simp;omega) (λe=>by have:=(b2.o.lt _ e.symm).1;omega)).trans (heap_past _ _ _ c9.o.lt rfl)))
   have b4:∀j,j<6->j≠4->_:=λj X d0=>zc7 ((World.ownsRow.alloc (a5.o j X) _).kept a9.o (yM0 HA.o.1 d.o.2.2.2.2.1 X d0)) (p:=⟨D.heap.size,4,none⟩) (yL6 ((World.ownsRow.alloc (a5.o j X) _).kept a9.o (yM0 HA.o.1 d.o.2.2.2.2.1 X d0)) a6.o (wu7 X)) (.slice a4 (I+1) c4);intro j X
   match j,X with
   | 0,X=>exact b4 0 X dC
   | 1,X=>exact b4 1 X dC
   | 2,X=>exact b4 2 X dC
   | 3,X=>exact b4 3 X dC
   | 5,X=>exact b4 5 X dC
   | 4,X =>
    show World.ownsRow _ _ 3 1 (.slice a4 (I+1) c4) (l.si++[(k:Int)]).length ((l.si++[(k:Int)]).map λs=>nI s);rw[aA,dB,<-HN.o.2.1];exact zc7 c8.o (p:=⟨D.heap.size,4,none⟩) (zb6 c8.o a6.o dC) _
  clear q0 q1 q2 q3 q4 q5 b8 fr c8 a9 a6 c9 b9 a5 b2 a7;obtain⟨Z,hZ⟩:=qq ((Z1.setCell ⟨D.heap.size,4,none⟩ (.slice a4 (I+1) c4)));rw[<-hZ]at G ⊢;clear hZ h1 h2 h3 W hr v3 v4 v5 L a2;obtain⟨t0,t1,t2,t3,t4,t5,c7⟩:=CY G.o.1;obtain⟨z1,c0,c1,c2,c3,b7,c5⟩:=G.o.2.1.pc;have wf:=G.o.2.1.warm;go_wp2_with fail
  try simp only[Exit.inBlock,Exit.then]
  refine bodyPost_ret (results_cell_row rfl _ _ w.heap.size 30 #[_,_,_,_,_,_] (0,0) _ rfl (zc9 G.o.2.1.heap _ _ _ _ _ _) Tryz.underlying30 rfl Tryz.info30) rfl ?_;obtain⟨ns',l',v,a3,⟨O,e1,e2,K,e4,e5⟩,hp,hf⟩:=G.o.2.2.2;refine⟨ns',l',v,.inl ⟨ns,l,a8.o,a3⟩,by rw[O,e1,e2,K,e4,e5],λk W=>?_,hf,zc8 G.o.2.2.1 (aK _) _ _ _ _ _ _⟩;exact zI9 (hp k W) oM _ _ _ _ _ _
 ·have a5:Hi (D.ownsRow (w.heap.size+1) 53 6 (.slice o0 n R) n (xOf ns ns.length l 0)):=by
   have h:=HU.o 0 dC;rw[d.o.1,show nOf ns.length l 0=n from HN.o.1.symm]at h;exact h
  obtain⟨X,q0,O,d3⟩:=yL5 a5.o L
  injection O with e _ e'
  subst e e';have d5:n<=R:=yy2 a5.o _ _ _ rfl;have d6:(k:Int)<=(R:Int):=oM;clear d5 a5
  go_upto_region 13 with (fail)
  have G:Hi (PrZ ns l odd w (D.alloc (.cells #[.slice (sA X 0) k R,.slice o1 n1 p1,.slice o2 n2 p2,.slice o3 n p3,.slice o4 I p4,.slice o5 n p5] 30)) D.heap.size (.slice (sA X 0) k R) (.slice o1 n1 p1) (.slice o2 n2 p2) (.slice o3 n p3) (.slice o4 I p4) (.slice o5 n p5)):=by refine⟨za3 _ _,HX.o.below ((Ok.refl _).alloc _),HK.o.alloc _,ns.take k,l,AU u 0 (.slice (sA X 0) k R),.inr ⟨a1.o.1,k,a1.o.2,.inr (.inr (.inl ⟨hr,rfl,rfl⟩))⟩,⟨rfl,d.o.2⟩,wf7 (ws3 HU.o d.o.1 HN.o.1 a2) _,λn L=>HA.o.2 n (dR L)⟩
  clear d6 d3;obtain⟨Z,hZ⟩:=qq ((D.alloc (.cells #[.slice (some ⟨X,0,none⟩) k R,.slice o1 n1 p1,.slice o2 n2 p2,.slice o3 n p3,.slice o4 I p4,.slice o5 n p5] 30)));rw[<-hZ]at G ⊢;clear hZ h1 h2 h3 W hr v3 v4 v5 L a2;obtain⟨t0,t1,t2,t3,t4,t5,c7⟩:=CY G.o.1;obtain⟨z1,c0,c1,c2,c3,b7,c5⟩:=G.o.2.1.pc;have wf:=G.o.2.1.warm;go_wp2_with fail
  try simp only[Exit.inBlock,Exit.then]
  refine bodyPost_ret (results_cell_row rfl _ _ w.heap.size 30 #[_,_,_,_,_,_] (0,0) _ rfl (zc9 G.o.2.1.heap _ _ _ _ _ _) Tryz.underlying30 rfl Tryz.info30) rfl ?_;obtain⟨ns',l',v,a3,⟨O,e1,e2,K,e4,e5⟩,hp,hf⟩:=G.o.2.2.2;refine⟨ns',l',v,.inl ⟨ns,l,a8.o,a3⟩,by rw[O,e1,e2,K,e4,e5],λk W=>?_,hf,zc8 G.o.2.2.1 (aK _) _ _ _ _ _ _⟩;exact zI9 (hp k W) oM _ _ _ _ _ _
 have H3:Hi (D.ownsRow (w.heap.size+1) 3 1 (.slice o5 n p5) n (xOf ns ns.length l 5)):=by have h:=HU.o 5 dC;rw[d.o.2.2.2.2.2,show nOf ns.length l 5=n from HL.o.2.1.trans HN.o.1.symm]at h;exact h
 obtain⟨J,q3,K,b6⟩:=yL5 H3.o L
 injection K with e _ e'
 subst e e';obtain⟨y,hy⟩:∃y,l.so[k]?=some y:=⟨_,gG_ (oK HN.o.1 HL.o.2.1)⟩;have d1:=wl9 H3.o (show(xOf ns ns.length l 5)[k]?=some (nI y) by show(l.so.map _)[k]?=_;rw[aX,hy];rfl);have lg:=(H3.o.lt J rfl).2;have fr:=yH9 H3.o k;have b1:Hi (_/\_):=And.intro hr hy;clear hy
 go_upto_region 13 with (fail)
 have hs:(D.setCell (aD J k) (nI (wrap64 (y+1)))).heap.size=D.heap.size:=by simp
 have G:Hi (PrZ ns l odd w ((D.setCell (aD J k) (nI (wrap64 (y+1)))).alloc (.cells #[.slice o0 n R,.slice o1 n1 p1,.slice o2 n2 p2,.slice o3 n p3,.slice o4 I p4,.slice (sA J 0) n p5] 30)) D.heap.size (.slice o0 n R) (.slice o1 n1 p1) (.slice o2 n2 p2) (.slice o3 n p3) (.slice o4 I p4) (.slice (sA J 0) n p5)):=by refine⟨by rw[<-hs];exact za3 _ _,(HX.o.kept (Below.heap_setCell _ _ _ _ (by show w.heap.size≠J;omega))).below ((Ok.refl _).alloc _),(HK.o.set (p:=⟨J,k,none⟩) (by show w.heap.size<=J;omega) _).alloc _,ns,_,u,.inr ⟨a1.o.1,k,a1.o.2,.inr (.inr (.inr ⟨b1.o.1,rfl,y,b1.o.2,rfl⟩))⟩,d.o,wf7 (wv8 HU.o HA.o.1 d.o.2.2.2.2.2 (HN.o.1.trans HL.o.2.1.symm) a2 _) _,HA.o.2⟩
 clear hs d1 lg fr b6;obtain⟨Z,hZ⟩:=qq (((D.setCell ⟨J,k,none⟩ (nI (wrap64 (y+1)))).alloc (.cells #[.slice o0 n R,.slice o1 n1 p1,.slice o2 n2 p2,.slice o3 n p3,.slice o4 I p4,.slice (some ⟨J,0,none⟩) n p5] 30)));rw[<-hZ]at G ⊢;clear hZ h1 h2 h3 W hr v3 v4 v5 L a2;obtain⟨t0,t1,t2,t3,t4,t5,c7⟩:=CY G.o.1;obtain⟨z1,c0,c1,c2,c3,b7,c5⟩:=G.o.2.1.pc;have wf:=G.o.2.1.warm;go_wp2_with fail
 try simp only[Exit.inBlock,Exit.then]
 refine bodyPost_ret (results_cell_row rfl _ _ w.heap.size 30 #[_,_,_,_,_,_] (0,0) _ rfl (zc9 G.o.2.1.heap _ _ _ _ _ _) Tryz.underlying30 rfl Tryz.info30) rfl ?_;obtain⟨ns',l',v,a3,⟨O,e1,e2,K,e4,e5⟩,hp,hf⟩:=G.o.2.2.2;refine⟨ns',l',v,.inl ⟨ns,l,a8.o,a3⟩,by rw[O,e1,e2,K,e4,e5],λk W=>?_,hf,zc8 G.o.2.2.1 (aK _) _ _ _ _ _ _⟩;exact zI9 (hp k W) oM _ _ _ _ _ _
def TxP(s:ByteArray)(ns:List Nd)(l:Ls):Prop:=wm1 s.toList ns/\l=(AA ns).2.2/\ns.length<=300
def wp8(s:ByteArray):Prop:=∀ns,¬wm1 s.toList ns
def Eq2(P Q:RP):Prop:=P.ts=Q.ts/\P.en=Q.en
variable {P Q:RP}
def wj9(h:Eq2 P Q):plS P=plS Q:=by funext a;unfold plS;rw[h.1,h.2]
def wh5(h:Eq2 P Q):isS P=isS Q:=by funext a b t;unfold isS;rw[h.1]
def yM1(h:Eq2 P Q):AF P=AF Q:=by funext a b;unfold AF;rw[wj9 h]
def wm0(h:Eq2 P Q):CN P=CN Q:=by funext a b;unfold CN;rw[h.1]
def wr0(h:Eq2 P Q):CF P=CF Q:=by funext a b;unfold CF;rw[h.1]
def wu8(h:Eq2 P Q):nuS P=nuS Q:=by funext a;unfold nuS;rw[h.1]
def wv9(h:Eq2 P Q):txS P=txS Q:=by funext a;unfold txS;rw[h.1]
def wo8(h:Eq2 P Q):naT P=naT Q:=by funext a b;unfold naT;rw[wm0 h,wv9 h]
def wr1(h:Eq2 P Q):naA P=naA Q:=by funext a b;unfold naA;rw[wm0 h]
def wr2(h:Eq2 P Q):naB P=naB Q:=by funext a b;unfold naB;rw[wm0 h,yM1 h]
def wi3(h:Eq2 P Q):tkA P=tkA Q:=by funext a b t;unfold tkA;rw[wh5 h]
def wi4(h:Eq2 P Q):tkB P=tkB Q:=by funext a b t;unfold tkB;rw[wh5 h,yM1 h]
def ww0(h:Eq2 P Q):opF P=opF Q:=by
 funext a b L
 induction L with
 | nil=>rfl
 | cons p r ih=>unfold opF;rw[wh5 h,ih]
def wu9(h:Eq2 P Q):opS P=opS Q:=by funext a b r;unfold opS;rw[ww0 h]
def ww1(h:Eq2 P Q):loF P=loF Q:=by
 funext g row k
 induction k with
 | zero=>rfl
 | succ k ih=>funext l a b;simp only[loF,wu9 h,wj9 h,ih]
def ww2(h:Eq2 P Q):atF P=atF Q:=by funext g a b;unfold atF;rw[wr0 h,wu8 h,wj9 h,wh5 h,wi3 h,wi4 h,wm0 h,wo8 h,yM1 h]
def ww3(h:Eq2 P Q):exF P=exF Q:=by
 funext f
 induction f with
 | zero=>rfl
 | succ f ih=>funext md a b;simp only[exF,ih,ww1 h,wh5 h,wj9 h,ww2 h]
def wr3(h:Eq2 P Q):exA P=exA Q:=by funext a b;unfold exA;rw[ww3 h,h.1]
def ww4(h:Eq2 P Q):blF P=blF Q:=by
 funext g k
 induction k with
 | zero=>rfl
 | succ k ih=>funext l a b;simp only[blF,wh5 h,ih]
def wv0(h:Eq2 P Q):blE P=blE Q:=by funext a r;unfold blE;rw[wj9 h,wi3 h,wi4 h]
def ww5(h:Eq2 P Q):nsF P=nsF Q:=by funext a s a1 b1;unfold nsF;rw[wh5 h,wr3 h,wi3 h,wi4 h,wj9 h]
def ww6(h:Eq2 P Q):smF P=smF Q:=by funext g a b;unfold smF;rw[wh5 h,wo8 h,wj9 h,wi3 h,wr1 h,wr2 h,wi4 h,wr3 h,ww5 h]
def ww7(h:Eq2 P Q):stF P=stF Q:=by
 funext f
 induction f with
 | zero=>rfl
 | succ f ih=>funext md a b;simp only[stF,ih,ww6 h,wv0 h,ww4 h,wi3 h,wi4 h]
def ww8(h:Eq2 P Q):deF P=deF Q:=by funext a b;unfold deF;rw[wo8 h,wr1 h,wr2 h,wh5 h,wi3 h,wi4 h,wr0 h,yM1 h,wu8 h,wj9 h]
def wv1(h:Eq2 P Q):stA P=stA Q:=by funext a b;unfold stA;rw[ww7 h,h.1]
def ww9(h:Eq2 P Q):slF P=slF Q:=by
 funext k
 induction k with
 | zero=>rfl
 | succ k ih=>funext l a b;simp only[slF,wv1 h,h.1,ih]
def wx0(h:Eq2 P Q):dlF P=dlF Q:=by
 funext k
 induction k with
 | zero=>rfl
 | succ k ih=>funext l a b;simp only[dlF,wh5 h,ww8 h,ih]
def wx1(h:Eq2 P Q):paF P=paF Q:=by unfold paF slL;rw[wx0 h,ww9 h,h.1]
def yM2(h1:P.ts=Q.ts)(d:P.en=Q.en):BX P=BX Q:=by unfold BX;rw[wx1 ⟨h1,d⟩]
def TxP.uniq{s:ByteArray}(h:TxP s ns l)(D:TxP s ns' l'):ns'=ns/\l'=l:=by
 obtain⟨⟨P,K,J,Y,L,W⟩,G,_⟩:=h;obtain⟨⟨Q,d,O,R,o,X⟩,I,_⟩:=D;rw[K]at d
 injection d with d
 have e:=yM2 (P:=P) (Q:=Q) d (J.trans O.symm);rw[<-e,L]at o;subst o;exact⟨rfl,I.trans G.symm⟩
def OdP.uniq{s:ByteArray}(h:OdP (TxP s) (wp8 s) odd ns l)(D:OdP (TxP s) (wp8 s) odd ns' l'):ns'=ns/\l'=l:=by
 rcases h with ⟨O,m,d,I⟩ | ⟨d,rfl,rfl⟩<;>rcases D with ⟨L,R,o,G⟩ | ⟨o,J,K⟩
 ·obtain⟨rfl,rfl⟩:=d.uniq o
  exact I.uniq G
 ·exact absurd d.1 (o _)
 ·exact absurd o.1 (d _)
 exact⟨J,K⟩
def OdP.len{s:ByteArray}(h:OdP (TxP s) (wp8 s) odd ns l):ns.length<=300:=by
 rcases h with ⟨D,m,⟨_,_,d⟩,o⟩ | ⟨_,rfl,_⟩
 ·rcases o with ⟨_,rfl,_⟩ | ⟨_,k,_,⟨_,rfl,_⟩ | ⟨_,rfl,_⟩ | ⟨_,rfl,_⟩ | ⟨_,rfl,_⟩⟩
  ·exact d
  ·exact d
  ·exact d
  ·rw[bH];omega
  exact d
 exact zL_ _
def yP0(s:ByteArray)(Y:World):Calls Tryz.prog 12 #[.string s] Y λe w'=>TxJ (TxP s) (wp8 s) Y e w'/\Ok Y w':=by
 refine(yt7 s Y).mono ?_;rintro e w1 ⟨o,L⟩;refine⟨?_,L⟩;unfold wb3 at o
 cases D:DY s.toList with
 | inl p =>
  rw[D]at o;obtain⟨Z,G⟩:=p;exact .inr ⟨(λns ⟨P,J,_⟩=>by rw[D]at J;cases J),_,_,o.2⟩
 | inr ts =>
  rw[D]at o;obtain⟨P,J,W,h3⟩:=o;subst J;rcases h3 with ⟨O,I,u,R,k4,k5⟩ | ⟨O,Z,G,I,R⟩
  ·have K:∀n∈(BX P).2.2,n.Ok:=λn hn=>yj1 (k5.1 n hn)
   have X:=zw4 (BX P).2.2 K;have hz:(AP (BX P).2.2 rd0).1=0:=by rw[X]at I;exact I
   have d:=yI4 hz K;rw[show BU (AP (BX P).2.2 rd0).2.2=(AA (BX P).2.2).2.2 by rw[X]]at d;exact .inl ⟨_,_,u,⟨⟨P,D,W,O,rfl,I⟩,rfl,d.1⟩,R,k4,k5.2,K,d.2.1,d.2.2.1,d.2.2.2.2.2,d.1⟩
  refine .inr ⟨λns ⟨Q,d,b2,b3,K,X⟩=>?_,Z,G,R⟩;rw[D]at d
  injection d with d
  have e:=yM2 (P:=P) (Q:=Q) d (W.trans b2.symm);rw[<-e]at b3 K;rw[<-K]at X;exact O b3 X
end Go.Proofs.YthoegkcpmgalbaaGreatDoor
