import Derived.Test.YthoegkcpmgalbaaGreatDoorKJd
set_option maxHeartbeats 8000000
set_option linter.all false
set_option maxRecDepth 100000
namespace Go.Proofs.YthoegkcpmgalbaaGreatDoor
open Go.RowKit Go.Maps
def LPr(w:World)(l:List UInt8)(e:Ending)(w':World):Prop :=
 (∃(ns:List Nd) (u:Nat->Value),wm1 l ns/\e=.returned (.agg #[u 0,u 1,u 2,u 3,u 4,u 5])/\AG w' w.heap.size u ns (AA ns).2.2/\∀n∈ns,n.Fit)
 \/ (wp5 l/\e=.returned (.agg #[sZ,sZ,sZ,sZ,sZ,sZ]))
def zx9(s:ByteArray)(w:World) :
  Calls Tryz.prog 4 #[.string s,nI 0] w λe w'=>LPr w s.toList e w'/\Ok w w':=by
 go_enter Tryz.func4,Tryz.ntmps4;go_wp2_with fail;refine(yt7 s _).mono ?_;rintro e X ⟨D,G⟩;have J:Hi (Six X w.heap.size (sZ) (sZ) (sZ) (sZ) (sZ) (sZ)):=(Six.new w _ _ _ _ _ _).below G;have HK:Hi (Ok w X):=((Ok.refl w).alloc _).step G;obtain⟨z1,c0,c1,c2,c3,c4,c5⟩:=J.o.pc;have wf:=J.o.warm
 have hT:(∃(ns:List Nd) (u:Nat->Value),wm1 s.toList ns/\e=.returned (.tuple #[.agg #[u 0,u 1,u 2,u 3,u 4,u 5],nI 0,nI 0])/\AG X (w.heap.size+1) u ns (AA ns).2.2/\∀n∈ns,n.Fit)\/(wp5 s.toList/\∃I d:Int,I≠0/\e=.returned (.tuple #[.agg #[sZ,sZ,sZ,sZ,sZ,sZ],nI I,nI d])):=by
  unfold wb3 at D
  cases K:DY s.toList with
  | inl p =>
   rw[K]at D;obtain⟨I,d⟩:=p;exact .inr ⟨.inl ⟨_,K⟩,_,_,oH D.1,D.2⟩
  | inr ts =>
   rw[K]at D;obtain⟨P,Z,W,h3⟩:=D;subst Z;rcases h3 with ⟨L,O,u,R,k4,Y⟩ | ⟨L,I,d,O,R⟩
   ·exact .inl ⟨_,u,⟨P,K,W,L,rfl,O⟩,R,by simpa using k4,Y.1⟩
   exact .inr ⟨.inr ⟨P,K,W,L⟩,I,d,O,R⟩
 clear D G;rcases hT with ⟨ns,u,Z,rfl,hu,hf⟩ | ⟨hn,I,d,he,rfl⟩
 ·have D:Hi (wm1 s.toList ns/\AG X (w.heap.size+1) u ns (AA ns).2.2/\∀n∈ns,n.Fit):=⟨Z,hu,hf⟩
  clear Z hu hf;obtain⟨o0,p0,O⟩:=za0 (D.o.2.1 0 dC);obtain⟨o1,p1,W⟩:=za0 (D.o.2.1 1 dC);obtain⟨o2,p2,K⟩:=za0 (D.o.2.1 2 dC);obtain⟨o3,p3,G⟩:=za0 (D.o.2.1 3 dC);obtain⟨o4,p4,L⟩:=za0 (D.o.2.1 4 dC);obtain⟨o5,p5,R⟩:=za0 (D.o.2.1 5 dC);have Y:Hi (u 0=_/\u 1=_/\u 2=_/\u 3=_/\u 4=_/\u 5=_):=⟨O,W,K,G,L,R⟩;rw[O,W,K,G,L,R];clear O W K G L R;go_wp2_with fail
  try simp only[Exit.inBlock,Exit.then]
  refine bodyPost_ret (results_cell_row rfl _ _ w.heap.size 30 #[_,_,_,_,_,_] (0,0) _ rfl (heap_past _ _ _ (za2 (zc9 J.o.heap _ _ _ _ _ _)) (zc9 J.o.heap _ _ _ _ _ _)) Tryz.underlying30 rfl Tryz.info30) rfl ?_;refine⟨.inl ⟨ns,u,D.o.1,?_,?_,D.o.2.2⟩,(show Ok w _ from zc8 HK.o (nR_ _) _ _ _ _ _ _).alloc _⟩
  ·obtain⟨O,W,K,G,L,R⟩:=Y.o
   rw[O,W,K,G,L,R]
  intro k hk;exact za7 (World.ownsRow.alloc (zI9 (D.o.2.1 k hk) oM _ _ _ _ _ _) _) oM
 have D:=hid hn;clear hn he;go_wp2_with fail
 try simp only[Exit.inBlock,Exit.then]
 refine bodyPost_ret (results_cell_row rfl _ _ w.heap.size 30 #[_,_,_,_,_,_] (0,0) _ rfl (heap_past _ _ _ (za2 (zc9 J.o.heap _ _ _ _ _ _)) (zc9 J.o.heap _ _ _ _ _ _)) Tryz.underlying30 rfl Tryz.info30) rfl ?_;exact⟨.inr ⟨D.o,rfl⟩,(show Ok w _ from zc8 HK.o (nR_ _) _ _ _ _ _ _).alloc _⟩
def wq3{ns:List Nd}{l:Ls}{c:Nat->Int}{ts:List Int}(h:CM ns l c ts=0):LkB (spR ns c).2.2/\(spR ns c).2.1.length<=1806/\0<(spR ns c).2.1.length:=by
 obtain⟨Z,O⟩:=zm1 h;have hc:=zp8 O;have D:=wi1 Z;have d:=ye8 h;obtain⟨R,X⟩:=qq (spR ns c);rw[<-X]at d ⊢
 have Y:R.2.1.length<=1806:=by have o:=d.vi.len (N:=ptN ns) D.wit;have G:(DR (c 2).toNat (c 0) (c 1) (elF ns) R.1).cap=(c 2).toNat:=rfl;rw[G]at o;have I:=eI D.pts (show(c 2).toNat<=6 by omega);omega
 have I:(DR (c 2).toNat (c 0) (c 1) (elF ns) R.1).es=elF ns:=rfl;refine⟨⟨?_,λx J=>?_⟩,Y,?_⟩
 ·obtain⟨LL,L,W,k3⟩:=d.rows
  rw[W];refine aH (zt5 (M:=600) LL λrow o=>?_) (by rw[L];omega);obtain⟨i,K⟩:=bW.1 o;obtain⟨v,_,G⟩:=k3 i row K;rw[G.1];exact aH (zr0 _ _) (by rw[I];exact D.els)
 ·obtain⟨v,e,W,K,a3,L⟩:=d.link J
  have b1:=(aE.1 W).1;have o:=(aE.1 K).1;have b3:=(aE.1 L).1;rw[I]at o;have:=D.els;omega
 exact(aE.1 d.first).1
def yB1(v:Nat->Value)(c:Nat->Int)(ts:List Int)(tz:Option Addr)(tc:Nat)(ns:List Nd)(l:Ls)(D:Value)(d:List Int)(w:World)(O:we9 w)(h:BV w (v 0) (v 1) (v 2) (v 3) (v 4) (v 5) ns l)(I:SL w 1 (.slice tz ts.length tc) ts.length (ilL ts))(R:SL w 1 D d.length (ilL d))(L:d.length<=4000000000000000000)(K:∀y∈d,(Lit.int .i64 y).wf=true) :
  Calls Tryz.prog 23 #[.agg #[v 0,v 1,v 2,v 3,v 4,v 5],.agg #[nI (c 0),nI (c 1),nI (c 2),nI (c 3),nI (c 4),nI (c 5),.slice tz ts.length tc,nI (c 7),nI (c 8)],D] w λe w'=>e=.returned (.tuple #[nI (flV (CM ns l c ts) (spR ns c).2.2 d).1,nI (flV (CM ns l c ts) (spR ns c).2.2 d).2])/\Ok w w':=by
 have J:∀Y,Ok w Y->Calls Tryz.prog 8 #[.agg #[v 0,v 1,v 2,v 3,v 4,v 5],.agg #[nI (c 0),nI (c 1),nI (c 2),nI (c 3),nI (c 4),nI (c 5),.slice tz ts.length tc,nI (c 7),nI (c 8)]] Y λe w'=>SpG Y (CM ns l c ts) (ptN ns) (spR ns c) e w':=λY G=>zu0 v c ts tz tc ns l Y (O.ok G) (h.below G) (I.below G);by_cases o:CM ns l c ts=0
 ·rw[o]at J ⊢
  exact ye6 v c tz ts.length tc D d (ptN ns) (spR ns c) _ w (ye8 o) (wq3 o).1 R L K J
 refine mq (zV3 v c tz ts.length tc D (CM ns l c ts) (ptN ns) (spR ns c) w o J) λw' W=>?_;refine⟨?_,W⟩;unfold flV;rw[aC o]
def we6:List UInt8:=[118,97,114,32,120,59,32,105,110,112,117,116,32,120,59,32,105,102,32,120,32,60,32,48,32,123,32,120,32,58,61,32,49,59,32,125,32,101,108,115,101,32,123,32,115,107,105,112,59,32,125,32,119,104,105,108,101,32,120,32,60,32,57,32,123,32,120,32,58,61,32,120,32,43,32,49,59,32,125]
def wr7:List Tk:=match DY we6 with | .inr t=>t | .inl _=>[]
def zR7:DY we6=.inr wr7:=by kernel_rfl
def DS:List Nd:=(BX (⟨.nilFunc,0,[],wr7,79⟩:RP)).2.2
def ys1(tv:Value)(B:Nat)(d:List Value):BX (⟨tv,B,d,wr7,79⟩:RP)=(0,0,DS):=by kernel_rfl
def zH4:(AA DS).1=0:=by kernel_rfl
def yh5{P:RP}(d:DY we6=.inr P.ts)(D:P.en=we6.length):BX P=(0,0,DS):=by
 obtain⟨G,B,o,ts,en⟩:=P;rw[zR7]at d
 injection d with d
 subst d;have e:en=79:=D;subst e;exact ys1 G B o
def ys2{ns:List Nd}(h:wm1 we6 ns):ns=DS:=by obtain⟨P,o,D,_,d,_⟩:=h;rw[yh5 o D]at d;exact d.symm
def ys3:¬wp5 we6:=by
 rintro(⟨p,h⟩ | ⟨P,o,D,d⟩)
 ·rw[zR7]at h;cases h
 rw[yh5 o D]at d;exact d rfl zH4
def cf1:Nat->Int
 | 0=>1
 | 2=>6
 | _=>0
def cf2:Nat->Int
 | 2=>1
 | _=>0
def yB2:AK cf1 []=0:=by kernel_rfl
def yB3:AK cf2 []=0:=by kernel_rfl
def yE0:(decide (8<=(spR DS cf1).2.1.length)&&(decide ((mgL (ptN DS) (spR DS cf1).1).length=0)&&decide ((spR DS cf1).2.1.length<=(spR DS cf1).2.2.length)))=true:=by kernel_rfl
def yE1:goP (spR DS cf2).2.2 0 [0]=some 1:=by kernel_rfl
def yh6(w:World)(d:we9 w) :
  Calls Tryz.prog 11 #[] w λe w'=>e=.returned (.bool true)/\Ok w w':=by
 have HE:=hid d;clear d;go_enter Tryz.func11,Tryz.ntmps11;go_wp2_with fail;refine(zx9 _ w).mono ?_;rintro e X ⟨ht,a9⟩;have a4:∀s:ByteArray,s.data.toList=we6->s.toList=we6:=λs h=>by rw[ByteArray.toList_eq];exact h
 rw[a4 _ rfl]at ht;rcases ht with ⟨ns,v,h1,rfl,d,h3⟩ | ⟨h1,_⟩;rotate_left
 ·exact absurd h1 ys3
 have b4:=ys2 h1;subst b4;obtain⟨m,hm⟩:=qq ((AA DS).2.2);rw[<-hm]at d;have I:=hid a9;have L:∀n∈DS,n.Ok:=λn hn=>yj1 (h3 n hn);have K:DG DS m=true:=by rw[hm];exact yq0 L zH4
 have a1:CM DS m cf1 []=0:=by unfold CM;rw[aG K];exact yB2
 have O:CM DS m cf2 []=0:=by unfold CM;rw[aG K];exact yB3
 have J:BV X (v 0) (v 1) (v 2) (v 3) (v 4) (v 5) DS m:=d.prog L;have R:∀Y:World,SL Y 1 (.slice none ([]:List Int).length 0) ([]:List Int).length (ilL []):=λY=>⟨rfl,λu hu=>(by cases hu),none,0,rfl,.inl rfl⟩
 have D:∀Y,Ok X Y->Calls Tryz.prog 8 #[.agg #[v 0,v 1,v 2,v 3,v 4,v 5],.agg #[nI 1,nI 0,nI 6,nI 0,nI 0,nI 0,sZ,nI 0,nI 0]] Y λe w'=>wn2 Y (ptN DS) (spR DS cf1) e w':=λY hY =>
  (zu0 v cf1 [] none 0 DS m Y (HE.o.ok (I.o.step hY)) (J.below hY) (R Y)).mono λe w' h=>h.elim (λh=>absurd a1 h.1) (λh=>h.2)
 have G:∀Y pv,Ok X Y->SL Y 1 pv 1 (ilL [0])->Calls Tryz.prog 23 #[.agg #[v 0,v 1,v 2,v 3,v 4,v 5],.agg #[nI 0,nI 0,nI 1,nI 0,nI 0,nI 0,sZ,nI 0,nI 0],pv] Y λe w'=>e=.returned (.tuple #[nI 1,nI 0])/\Ok Y w':=λY pv hY hs=>by
  have h:=yB1 v cf2 [] none 0 DS m pv [0] Y (HE.o.ok (I.o.step hY)) (J.below hY) (R Y) hs (by decide) (λy W=>by rw[aT.1 W];rfl);have W:flV (CM DS m cf2 []) (spR DS cf2).2.2 [0]=(1,0):=by unfold flV;rw[aG O,yE1];rfl
  rw[W]at h;exact h
 obtain⟨o0,p0,e0⟩:=za0 (d 0 dC);obtain⟨o1,p1,e1⟩:=za0 (d 1 dC);obtain⟨o2,p2,e2⟩:=za0 (d 2 dC);obtain⟨o3,p3,e3⟩:=za0 (d 3 dC);obtain⟨o4,p4,e4⟩:=za0 (d 4 dC);obtain⟨o5,p5,e5⟩:=za0 (d 5 dC);rw[e0,e1,e2,e3,e4,e5]at D G;rw[e0,e1,e2,e3,e4,e5];obtain⟨n0,a2⟩:=qq (nOf DS.length m 0);obtain⟨n1,a3⟩:=qq (nOf DS.length m 1);obtain⟨n2,Z⟩:=qq (nOf DS.length m 2);obtain⟨n3,W⟩:=qq (nOf DS.length m 3);obtain⟨n4,a7⟩:=qq (nOf DS.length m 4);obtain⟨n5,a6⟩:=qq (nOf DS.length m 5);rw[<-a2,<-a3,<-Z,<-W,<-a7,<-a6]at D G ⊢;have b6:=hid D;have b2:=hid G;clear a9 h1 d h3 hm L K a1 O J R D G e0 e1 e2 e3 e4 e5 a2 a3 Z W a7 a6 a4;go_wp2_with fail;obtain⟨W,D⟩:=qq (X.alloc (Obj.cells #[.slice o0 n0 p0,.slice o1 n1 p1,.slice o2 n2 p2,.slice o3 n3 p3,.slice o4 n4 p4,.slice o5 n5 p5] 30));obtain⟨gP,d⟩:=qq (X.heap.size);rw[<-D,<-d];have G:Hi (Ok X W):=by rw[D];exact(Ok.refl _).alloc _
 have b7:Hi (W.heap[gP]?=some (.cells #[.slice o0 n0 p0,.slice o1 n1 p1,.slice o2 n2 p2,.slice o3 n3 p3,.slice o4 n4 p4,.slice o5 n5 p5] 30 (0,0))):=by rw[D,d];exact za3 _ _
 clear D d;refine(b6.o W G.o).mono ?_;rintro e w2 ⟨vv,lv,mv,rfl,⟨tl,_,b1,_⟩,R,L,a5⟩;have D:=hid a5;obtain⟨vo,vc,rfl⟩:=za0 b1;obtain⟨lo,lc,rfl⟩:=za0 R;obtain⟨mo,mc,rfl⟩:=za0 L;obtain⟨K,b0⟩:=qq ((spR DS cf1).2.1.length);obtain⟨ln,Z⟩:=qq ((spR DS cf1).2.2.length);obtain⟨mn,a8⟩:=qq ((mgL (ptN DS) (spR DS cf1).1).length);have d:=yE0;rw[<-b0,<-Z,<-a8]at d ⊢;simp only[bM,bV]at d;obtain⟨b3,J,b5⟩:=d;have c1:decide ((K:Int)<8)=false:=dF_ oM;have c0:((mn:Int) != 0)=false:=by rw[J];rfl
 have c2:decide ((ln:Int)<(K:Int))=false:=dF_ oM;have b8:¬(K:Int)<8:=oM;have b9:¬(ln:Int)<(K:Int):=oM;have O:((mn:Int)==0)=true:=by rw[J];rfl
 clear b1 R L a5 b0 Z a8 b3 J b5;obtain⟨q0,q1,q2,q3,q4,q5,Z⟩:=CY (Ok.row' D.o b7.o);have J:=SL.one (s:=1) (w2.alloc (Obj.cells #[.slice vo K vc,.slice lo ln lc,.slice mo mn mc] 37)) 3 [nI 0] rfl (by simp[Value.oneCell']);rw[show(w2.alloc (Obj.cells #[.slice vo K vc,.slice lo ln lc,.slice mo mn mc] 37)).heap.size=w2.heap.size+1 from by simp]at J;have L:=hid J;clear J;go_wp2_with fail;refine mq (b2.o _ _ (((G.o.step D.o).alloc _).alloc _) L.o) λw3 J=>?_;have R:Hi (Ok w w3):=I.o.step ((((G.o.step D.o).alloc _).alloc _).step J);clear J;go_wp2_with fail;go_ret;exact⟨rfl,R.o⟩
end Go.Proofs.YthoegkcpmgalbaaGreatDoor
