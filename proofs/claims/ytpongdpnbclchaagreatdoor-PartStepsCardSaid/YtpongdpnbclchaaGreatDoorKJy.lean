import Derived.Test.YtpongdpnbclchaaGreatDoorKNi
set_option linter.all false
set_option maxRecDepth 100000
namespace Go.Proofs.YtpongdpnbclchaaGreatDoor
variable{B b g j k n q s:Nat}{e:TypeId}{l:Ls}{ns:List Nd}{u:Nat->Value}{w:World}{xs:List Value}
open Go.RowKit
theorem yK9{v:Value}(h:w.ownsRow B e s v n xs)(hn:0<n):∃g cap,v=.slice (sA g 0) n cap/\B<=g:=by
 rcases h.2 with ⟨_,h2⟩ | ⟨g,cap,cur,e1,_⟩
 ·omega
 exact⟨g,cap,e1,(h.lt g (by rw[e1];rfl)).1⟩
theorem wo9{cap:Nat}(h:w.ownsRow B e s (.slice (sA g 0) n cap) n xs){u:Value}(hj:xs[j]?=some u):w.cell? (aD g j)=some u:=by
 have:=h.cells (g:=g) rfl j u hj
 rwa [zb7,Nat.zero_add]at this
theorem wf7(h:BZ w B u ns l)(ob:Obj):BZ (w.alloc ob) B u ns l:=λk hk=>World.ownsRow.alloc (h k hk) _
theorem yL7(ha:Apt u){i:Nat}(e:u i=.slice (sA b 0) n q)(hi:i<6)(hj:j<6)(hne:j≠i):(u j).ownBlock≠some b:=by
 rcases ha j i hj hi hne with h | h
 ·rw[h];exact λe=>by cases e
 rw[e]at h;exact h
theorem wt8(h:BZ w B u ns l)(ha:Apt u)(e:u 3=.slice (sA b 0) n q)(hn:n=l.sy.length)(hk:k<n)(y:Int):BZ (w.setCell (aD b k) (nI y)) B u ns ⟨l.sc,l.ar,l.sy.set k y,l.si,l.so⟩:=by
 intro j hj;have off:∀j,j<6->j≠3->_:=λj hj hne=>zc7 (h j hj) (p:=⟨b,k,none⟩) (yL7 ha e dC hj hne) (nI y)
 match j,hj with
 | 0,hj=>exact off 0 hj dC
 | 1,hj=>exact off 1 hj dC
 | 2,hj=>exact off 2 hj dC
 | 4,hj=>exact off 4 hj dC
 | 5,hj=>exact off 5 hj dC
 | 3,hj =>
  have h3:=h 3 hj;rw[e,show nOf ns.length l 3=n from hn.symm]at h3;have h4:=zA1 h3 (j:=k) (nI y) (by show k<n*1;omega);rw[e];show World.ownsRow _ _ 3 1 _ (l.sy.set k y).length ((l.sy.set k y).map λs=>nI s);rw[List.length_set,List.map_set,<-hn];exact h4
theorem wt9(h:BZ w B u ns l)(ha:Apt u)(e:u 5=.slice (sA b 0) n q)(hn:n=l.so.length)(hk:k<n)(y:Int):BZ (w.setCell (aD b k) (nI y)) B u ns ⟨l.sc,l.ar,l.sy,l.si,l.so.set k y⟩:=by
 intro j hj;have off:∀j,j<6->j≠5->_:=λj hj hne=>zc7 (h j hj) (p:=⟨b,k,none⟩) (yL7 ha e dC hj hne) (nI y)
 match j,hj with
 | 0,hj=>exact off 0 hj dC
 | 1,hj=>exact off 1 hj dC
 | 2,hj=>exact off 2 hj dC
 | 4,hj=>exact off 4 hj dC
 | 3,hj=>exact off 3 hj dC
 | 5,hj =>
  have h3:=h 5 hj;rw[e,show nOf ns.length l 5=n from hn.symm]at h3;have h4:=zA1 h3 (j:=k) (nI y) (by show k<n*1;omega);rw[e];show World.ownsRow _ _ 3 1 _ (l.so.set k y).length ((l.so.set k y).map λs=>nI s);rw[List.length_set,List.map_set,<-hn];exact h4
theorem yL8:∀ns:List Nd,(ns.flatMap CC).length=ns.length*6
 | []=>rfl
 | n::t=>by rw[List.flatMap_cons,List.length_append,yL8 t,List.length_cons];show 6+_=_;omega
theorem wp9(h:BZ w B u ns l)(e:u 0=.slice (sA b 0) n q)(hn:n=ns.length)(hk:k<n):BZ w B (AU u 0 (.slice (sA b 0) k q)) (ns.take k) l:=by
 intro j hj
 match j,hj with
 | 1,hj=>exact h 1 hj
 | 2,hj=>exact h 2 hj
 | 3,hj=>exact h 3 hj
 | 4,hj=>exact h 4 hj
 | 5,hj=>exact h 5 hj
 | 0,hj =>
  have h0:=h 0 hj;rw[e]at h0;have hl:(ns.take k).length=k:=by rw[List.length_take];omega
  show World.ownsRow _ _ _ _ (.slice (sA b 0) k q) (ns.take k).length (((ns.take k).take (ns.take k).length).flatMap CC);rw[List.take_length,hl]
  have h1:w.ownsRow B (TY 0) (SZ 0) (.slice (sA b 0) n q) n ((ns.take k).flatMap CC++(ns.drop k).flatMap CC):=by
   rw[<-List.flatMap_append,List.take_append_drop,hn];have h2:(ns.take ns.length).flatMap CC=ns.flatMap CC:=by rw[List.take_length]
   rw[hn]at h0;rw[<-h2];exact h0
  exact yj8 h1 (by show _=k*6;rw[yL8,hl]) (by omega)
theorem yL1(ha:Apt u){o:Option Addr}{i:Nat}(e:u i=.slice o n q)(hi:j<6)(hne:j≠i)(h6:i<6:=by decide):(u j).ownBlock=none\/(u j).ownBlock≠(Value.slice o n q).ownBlock:=by
 rcases ha j i hi h6 hne with h | h
 ·exact .inl h
 rw[e]at h;exact .inr h
theorem yL0{t:TypeId}{v:Value}{c:Array Value}{f:Nat×Nat}(h:w.ownsRow B e s v n xs)(hg:w.heap[g]?=some (.cells c t f))(ht:t≠e):v.ownBlock≠some (⟨g,4,none⟩:Addr).block:=zb6 h hg ht
theorem wr6:∀{j:Nat},j<6->(33:Nat)≠TY j
 | 0,_ | 1,_ | 2,_ | 3,_ | 4,_ | 5,_=>by decide
theorem yO5{c:Array Value}{t:TypeId}(h:w.heap[g]?=some (.cells c t (0,0)))(k:Nat):w.frozen? (aD g k)=false:=by simp[World.frozen?,h]
def PrZ(w Z:World)(g:Nat)(v0 v1 v2 v3 v4 v5:Value):Prop:=Z.heap[g]?=some (.cells #[v0,v1,v2,v3,v4,v5] 33 (0,0))/\Six Z w.heap.size (sZ) (sZ) (sZ) (sZ) (sZ) (sZ)/\Ok w Z/\∃(ns:List Nd) (l:Ls) (v:Nat->Value),(v 0=v0/\v 1=v1/\v 2=v2/\v 3=v3/\v 4=v4/\v 5=v5)/\BZ Z (w.heap.size+1) v ns l/\∀n∈ns,n.Ok
def TxJ(Y:World)(e:Ending)(w':World):Prop:=(∃(ns:List Nd) (l:Ls) (u:Nat->Value),e=.returned (.tuple #[.agg #[u 0,u 1,u 2,u 3,u 4,u 5],nI 0,nI 0])/\BZ w' Y.heap.size u ns l/\Apt u/\(∀n∈ns,n.Ok)/\l.sy.length=ns.length/\l.so.length=ns.length/\l.si.length<=100000/\ns.length<=300)\/∃er at0:Int,e=.returned (.tuple #[.agg #[sZ,sZ,sZ,sZ,sZ,sZ],nI er,nI at0])
theorem yO1{odd:Int}(h:0<odd)(hn:0<n):∃k:Nat,odd.tmod (n:Int)=(k:Int)/\k<n :=
 ⟨(odd.tmod (n:Int)).toNat,by have:=Int.tmod_nonneg (n:Int) (show 0<=odd by omega);omega,by have:=Int.tmod_nonneg (n:Int) (show 0<=odd by omega);have:=Int.tmod_lt_of_pos odd (show(0:Int)<(n:Int) by omega);omega⟩
set_option maxHeartbeats 8000000 in
theorem yL9(s:ByteArray)(odd:Int)(w:World)(hT:∀Y,Ok w Y->Calls Tryz.prog 12 #[.string s] Y λe w'=>TxJ Y e w'/\Ok Y w') :
  Calls Tryz.prog 4 #[.string s,nI odd] w λe w'=>∃(ns:List Nd) (l:Ls) (v:Nat->Value) (B:Nat),e=.returned (.agg #[v 0,v 1,v 2,v 3,v 4,v 5])/\BZ w' B v ns l/\(∀n∈ns,n.Ok)/\Ok w w':=by
 have HT:=hid hT;clear hT;go_enter Tryz.func4,Tryz.ntmps4;go_wp2_with fail;refine(HT.o _ ((Ok.refl w).alloc _)).mono ?_;rintro e w1 ⟨ht,hok⟩;have HX:Hi (Six w1 w.heap.size (sZ) (sZ) (sZ) (sZ) (sZ) (sZ)):=(Six.new w _ _ _ _ _ _).below hok;have HK:Hi (Ok w w1):=((Ok.refl w).alloc _).step hok;have HLE:=hid HX.o.lt;clear hok HT;rcases ht with ⟨ns,l,u,rfl,hu,ha,hf,hl1,hl2,hl3,hl4⟩ | ⟨er,at0,rfl⟩;rotate_left
 ·obtain⟨z1,c0,c1,c2,c3,c4,c5⟩:=HX.o.pc
  have wf:=HX.o.warm;by_cases h0:0<odd
  all_goals
   have h1:decide (0<odd)=_:=(by first | exact dT_ h0 | exact dF_ h0);go_wp2_with fail
   try simp only[Exit.inBlock,Exit.then]
   refine bodyPost_ret (results_cell_row rfl _ _ w.heap.size 33 #[_,_,_,_,_,_] (0,0) _ rfl (heap_past _ _ _ (za2 (zc9 HX.o.heap _ _ _ _ _ _)) (zc9 HX.o.heap _ _ _ _ _ _)) Tryz.underlying33 rfl Tryz.info33) rfl ?_;exact⟨[],ls0,λ_=>sZ,0,rfl,λk hk=>(by match k,hk with | 0,_ | 1,_ | 2,_ | 3,_ | 4,_ | 5,_=>exact World.ownsRow_nil _ _ _ _),λn hn=>(by cases hn),(show Ok w _ from zc8 HK.o (nR_ _) _ _ _ _ _ _).alloc _⟩
 have HU:Hi (BZ w1 (w.heap.size+1) u ns l):=by have:=hu;rw[World.size_alloc]at this;exact this
 have HA:Hi (Apt u/\∀n∈ns,n.Ok):=⟨ha,hf⟩;have HL:Hi (l.sy.length=ns.length/\l.so.length=ns.length/\l.si.length<=100000/\ns.length<=300):=⟨hl1,hl2,hl3,hl4⟩;clear hu ha hf hl1 hl2 hl3 hl4;obtain⟨o0,p0,e0⟩:=za0 (HU.o 0 dC);obtain⟨o1,p1,e1⟩:=za0 (HU.o 1 dC);obtain⟨o2,p2,e2⟩:=za0 (HU.o 2 dC);obtain⟨o3,p3,e3⟩:=za0 (HU.o 3 dC);obtain⟨o4,p4,e4⟩:=za0 (HU.o 4 dC);obtain⟨o5,p5,e5⟩:=za0 (HU.o 5 dC);obtain⟨n,hn⟩:=qq (ns.length);replace e0:u 0=.slice o0 n p0:=by rw[hn];exact e0
 replace e3:u 3=.slice o3 n p3:=by rw[hn,<-HL.o.1];exact e3
 replace e5:u 5=.slice o5 n p5:=by rw[hn,<-HL.o.2.1];exact e5
 obtain⟨n1,hn1⟩:=qq (nOf ns.length l 1);obtain⟨n2,hn2⟩:=qq (nOf ns.length l 2);obtain⟨n4,hn4⟩:=qq (l.si.length);rw[<-hn1]at e1;rw[<-hn2]at e2;replace e4:u 4=.slice o4 n4 p4:=by rw[hn4];exact e4
 have HEE:Hi (u 0=.slice o0 n p0/\u 1=.slice o1 n1 p1/\u 2=.slice o2 n2 p2/\u 3=.slice o3 n p3/\u 4=.slice o4 n4 p4/\u 5=.slice o5 n p5):=⟨e0,e1,e2,e3,e4,e5⟩;have HN:Hi (n=ns.length/\n4=l.si.length/\n1=nOf ns.length l 1/\n2=nOf ns.length l 2):=⟨hn,hn4,hn1,hn2⟩;rw[e0,e1,e2,e3,e4,e5];clear e0 e1 e2 e3 e4 e5 hn hn1 hn2 hn4;by_cases h0:0<odd;rotate_left
 ·obtain⟨z1,c0,c1,c2,c3,c4,c5⟩:=HX.o.pc
  have wf:=HX.o.warm;have h1:decide (0<odd)=false:=dF_ h0;go_wp2_with fail
  try simp only[Exit.inBlock,Exit.then]
  refine bodyPost_ret (results_cell_row rfl _ _ w.heap.size 33 #[_,_,_,_,_,_] (0,0) _ rfl (heap_past _ _ _ (za2 (zc9 HX.o.heap _ _ _ _ _ _)) (zc9 HX.o.heap _ _ _ _ _ _)) Tryz.underlying33 rfl Tryz.info33) rfl ?_;refine⟨ns,l,u,w.heap.size,?_,?_,HA.o.2,(show Ok w _ from zc8 HK.o (nR_ _) _ _ _ _ _ _).alloc _⟩
  ·obtain⟨e0,e1,e2,e3,e4,e5⟩:=HEE.o
   rw[e0,e1,e2,e3,e4,e5]
  intro k hk;exact World.ownsRow.alloc (zI9 (HU.o k hk) oM _ _ _ _ _ _) _
 by_cases hn:0<n;rotate_left
 ·obtain⟨z1,c0,c1,c2,c3,c4,c5⟩:=HX.o.pc
  have wf:=HX.o.warm;have h1:decide (0<odd)=true:=dT_ h0;obtain rfl:n=0:=oM;go_wp2_with fail
  try simp only[Exit.inBlock,Exit.then]
  refine bodyPost_ret (results_cell_row rfl _ _ w.heap.size 33 #[_,_,_,_,_,_] (0,0) _ rfl (heap_past _ _ _ (za2 (zc9 HX.o.heap _ _ _ _ _ _)) (zc9 HX.o.heap _ _ _ _ _ _)) Tryz.underlying33 rfl Tryz.info33) rfl ?_;refine⟨ns,l,u,w.heap.size,?_,?_,HA.o.2,(show Ok w _ from zc8 HK.o (nR_ _) _ _ _ _ _ _).alloc _⟩
  ·obtain⟨e0,e1,e2,e3,e4,e5⟩:=HEE.o
   rw[e0,e1,e2,e3,e4,e5]
  intro k hk;exact World.ownsRow.alloc (zI9 (HU.o k hk) oM _ _ _ _ _ _) _
 have h1:decide (0<odd)=true:=dT_ h0;have h2:(0:Int)<(n:Int):=oM;have h3:((n:Int)==0)=false:=by simp;omega
 obtain⟨k,hk,hkn⟩:=yO1 h0 hn
 have hr:odd.tmod 4=0\/odd.tmod 4=1\/odd.tmod 4=2\/odd.tmod 4=3:=by obtain⟨r,hr,hr4⟩:∃r:Nat,odd.tmod 4=(r:Int)/\r<4:=yO1 (n:=4) h0 dC;omega
 have v3:(0:Int)<=(k:Int):=oM;have v4:(k:Int)<(n:Int):=oM;have v5:¬((n:Int)<=(k:Int)):=oM;clear h0;rcases hr with hr | hr | hr | hr
 ·have H3:Hi (w1.ownsRow (w.heap.size+1) 3 1 (.slice o3 n p3) n (xOf ns ns.length l 3)):=by
   have h:=HU.o 3 dC;rw[HEE.o.2.2.2.1,show nOf ns.length l 3=n from HL.o.1.trans HN.o.1.symm]at h;exact h
  obtain⟨b3,q3,e3,hb3⟩:=yK9 H3.o hn
  injection e3 with e _ e'
  subst e e';obtain⟨y,hy⟩:∃y,l.sy[k]?=some y:=⟨_,gG_ (by have:=HN.o.1;have:=HL.o.1;omega)⟩;have d1:=wo9 H3.o (show(xOf ns ns.length l 3)[k]?=some (nI y) by show(l.sy.map _)[k]?=_;rw[List.getElem?_map,hy];rfl);have lg:=(H3.o.lt b3 rfl).2;have fr:=yH9 H3.o k;clear hy
  go_upto_region 13 with (fail)
  have hs:(w1.setCell (aD b3 k) (nI (wrap64 (y+1)))).heap.size=w1.heap.size:=by simp
  have HZ:Hi (PrZ w ((w1.setCell (aD b3 k) (nI (wrap64 (y+1)))).alloc (.cells #[.slice o0 n p0,.slice o1 n1 p1,.slice o2 n2 p2,.slice (sA b3 0) n p3,.slice o4 n4 p4,.slice o5 n p5] 33)) w1.heap.size (.slice o0 n p0) (.slice o1 n1 p1) (.slice o2 n2 p2) (.slice (sA b3 0) n p3) (.slice o4 n4 p4) (.slice o5 n p5)):=by refine⟨by rw[<-hs];exact za3 _ _,(HX.o.kept (Below.heap_setCell _ _ _ _ (by show w.heap.size≠b3;omega))).below ((Ok.refl _).alloc _),(HK.o.set (p:=⟨b3,k,none⟩) (by show w.heap.size<=b3;omega) _).alloc _,ns,_,u,HEE.o,wf7 (wt8 HU.o HA.o.1 HEE.o.2.2.2.1 (HN.o.1.trans HL.o.1.symm) hkn _) _,HA.o.2⟩
  clear hs d1 lg fr hb3;obtain⟨Z,hZ⟩:=qq (((w1.setCell ⟨b3,k,none⟩ (nI (wrap64 (y+1)))).alloc (.cells #[.slice o0 n p0,.slice o1 n1 p1,.slice o2 n2 p2,.slice (some ⟨b3,0,none⟩) n p3,.slice o4 n4 p4,.slice o5 n p5] 33)));rw[<-hZ]at HZ ⊢;clear hZ h1 h2 h3 hk hr v3 v4 v5 hn hkn;obtain⟨t0,t1,t2,t3,t4,t5,lgt⟩:=EZ HZ.o.1;obtain⟨z1,c0,c1,c2,c3,c4',c5⟩:=HZ.o.2.1.pc;have wf:=HZ.o.2.1.warm;go_wp2_with fail
  try simp only[Exit.inBlock,Exit.then]
  refine bodyPost_ret (results_cell_row rfl _ _ w.heap.size 33 #[_,_,_,_,_,_] (0,0) _ rfl (zc9 HZ.o.2.1.heap _ _ _ _ _ _) Tryz.underlying33 rfl Tryz.info33) rfl ?_;obtain⟨ns',l',v,⟨e0,e1,e2,e3,e4,e5⟩,hp,hf⟩:=HZ.o.2.2.2;refine⟨ns',l',v,w.heap.size,by rw[e0,e1,e2,e3,e4,e5],λk hk=>?_,hf,zc8 HZ.o.2.2.1 (Nat.le_refl _) _ _ _ _ _ _⟩;exact zI9 (hp k hk) oM _ _ _ _ _ _
 ·have H4:Hi (w1.ownsRow (w.heap.size+1) 3 1 (.slice o4 n4 p4) n4 (xOf ns ns.length l 4)):=by
   have h:=HU.o 4 dC;rw[HEE.o.2.2.2.2.1,show nOf ns.length l 4=n4 from HN.o.2.1.symm]at h;exact h
  go_upto_region 8 with (fail)
  obtain⟨Z0,hZ0⟩:=qq (w1.alloc (.cells #[.slice o0 n p0,.slice o1 n1 p1,.slice o2 n2 p2,.slice o3 n p3,.slice o4 n4 p4,.slice o5 n p5] 33));rw[<-hZ0];have HP0:Hi (Z0.heap[w1.heap.size]?=some (.cells #[.slice o0 n p0,.slice o1 n1 p1,.slice o2 n2 p2,.slice o3 n p3,.slice o4 n4 p4,.slice o5 n p5] 33 (0,0))):=by rw[hZ0];exact za3 _ _
  have HX0:Hi (Six Z0 w.heap.size (sZ) (sZ) (sZ) (sZ) (sZ) (sZ)):=by rw[hZ0];exact HX.o.below ((Ok.refl _).alloc _)
  have HK0:Hi (Ok w Z0):=by rw[hZ0];exact HK.o.alloc _
  have HU0:Hi (BZ Z0 (w.heap.size+1) u ns l):=by rw[hZ0];exact wf7 HU.o _
  have H40:Hi (Z0.ownsRow (w.heap.size+1) 3 1 (.slice o4 n4 p4) n4 (xOf ns ns.length l 4)):=by rw[hZ0];exact World.ownsRow.alloc H4.o _
  have HL0:=hid (za2 HP0.o);have HGP:=hid HLE.o;clear hZ0 H4 HX HK HU;obtain⟨q0,q1,q2,q3,q4,q5,lgq⟩:=EZ HP0.o
  go_upto_region 13 with (first|(at_builtin;refine ze4 rfl _ _ 25 3 1 8 _ rfl Tryz.underlying25 wb1 (by rfl) (by decide) (by decide) (w.heap.size+1) (.slice o4 n4 p4) n4 (xOf ns ns.length l 4) (by rfl) (World.ownsRow.alloc H40.o _) (.slice (sA Z0.heap.size 0) 1 1) 1 [nI (k:Nat)] (by rfl) (SL.one Z0 3 [nI (k:Nat)] rfl (by simp[Value.oneCell'])) (by have:=HL.o.2.2.1;have:=HN.o.2.1;omega) (by have:=HK0.o.le;have:=HL0.o;have:=HGP.o;simp;omega) ?_;intro v4 Z1 k1 k2;have HO1:=hid k1;have HG1:=hid k2;have HP1:Hi (Z1.heap[w1.heap.size]?=some (.cells #[.slice o0 n p0,.slice o1 n1 p1,.slice o2 n2 p2,.slice o3 n p3,.slice o4 n4 p4,.slice o5 n p5] 33 (0,0))):=(k2.block w1.heap.size (by have:=HL0.o;simp;omega) (λe=>zb6 H40.o HP0.o (by decide) e.symm)).trans (heap_past _ _ _ (za2 HP0.o) HP0.o);obtain⟨a4,c4,rfl⟩:=za0 k1;clear q0 q1 q2 q3 q4 q5 lgq k1 k2;obtain⟨q0,q1,q2,q3,q4,q5,lgq⟩:=EZ HP1.o;have fr:=yO5 HP1.o 4)|fail)
  have HZ:Hi (PrZ w (Z1.setCell (aD w1.heap.size 4) (.slice a4 (n4+1) c4)) w1.heap.size (.slice o0 n p0) (.slice o1 n1 p1) (.slice o2 n2 p2) (.slice o3 n p3) (.slice a4 (n4+1) c4) (.slice o5 n p5)):=by
   have hk1:Ok w Z1:=(HK0.o.alloc _).grown HG1.o (λb e=>by have:=(H40.o.lt b e).1;omega);refine⟨heap_setCell_same _ _ 4 _ _ _ HP1.o,?_,hk1.set (p:=⟨w1.heap.size,4,none⟩) (by have:=HGP.o;show w.heap.size<=w1.heap.size;omega) _,ns,⟨l.sc,l.ar,l.sy,l.si++[(k:Int)],l.so⟩,AU u 4 (.slice a4 (n4+1) c4),⟨HEE.o.1,HEE.o.2.1,HEE.o.2.2.1,HEE.o.2.2.2.1,rfl,HEE.o.2.2.2.2.2⟩,?_,HA.o.2⟩
   ·exact HX0.o.kept ((Below.heap_setCell _ _ _ _ (by have:=HGP.o;show w.heap.size≠w1.heap.size;omega)).trans ((HG1.o.block _ (by have:=HGP.o;have:=HL0.o;simp;omega) (λe=>by have:=(H40.o.lt _ e.symm).1;omega)).trans (heap_past _ _ _ HX0.o.lt rfl)))
   have off:∀j,j<6->j≠4->_:=λj hj hne=>zc7 ((World.ownsRow.alloc (HU0.o j hj) _).kept HG1.o (yL1 HA.o.1 HEE.o.2.2.2.2.1 hj hne)) (p:=⟨w1.heap.size,4,none⟩) (yL0 ((World.ownsRow.alloc (HU0.o j hj) _).kept HG1.o (yL1 HA.o.1 HEE.o.2.2.2.2.1 hj hne)) HP1.o (wr6 hj)) (.slice a4 (n4+1) c4);intro j hj
   match j,hj with
   | 0,hj=>exact off 0 hj dC
   | 1,hj=>exact off 1 hj dC
   | 2,hj=>exact off 2 hj dC
   | 3,hj=>exact off 3 hj dC
   | 5,hj=>exact off 5 hj dC
   | 4,hj =>
    show World.ownsRow _ _ 3 1 (.slice a4 (n4+1) c4) (l.si++[(k:Int)]).length ((l.si++[(k:Int)]).map λs=>nI s);rw[List.length_append,List.map_append,<-HN.o.2.1];exact zc7 HO1.o (p:=⟨w1.heap.size,4,none⟩) (zb6 HO1.o HP1.o dC) _
  clear q0 q1 q2 q3 q4 q5 lgq fr HO1 HG1 HP1 HX0 HK0 HU0 H40 HP0;obtain⟨Z,hZ⟩:=qq ((Z1.setCell ⟨w1.heap.size,4,none⟩ (.slice a4 (n4+1) c4)));rw[<-hZ]at HZ ⊢;clear hZ h1 h2 h3 hk hr v3 v4 v5 hn hkn;obtain⟨t0,t1,t2,t3,t4,t5,lgt⟩:=EZ HZ.o.1;obtain⟨z1,c0,c1,c2,c3,c4',c5⟩:=HZ.o.2.1.pc;have wf:=HZ.o.2.1.warm;go_wp2_with fail
  try simp only[Exit.inBlock,Exit.then]
  refine bodyPost_ret (results_cell_row rfl _ _ w.heap.size 33 #[_,_,_,_,_,_] (0,0) _ rfl (zc9 HZ.o.2.1.heap _ _ _ _ _ _) Tryz.underlying33 rfl Tryz.info33) rfl ?_;obtain⟨ns',l',v,⟨e0,e1,e2,e3,e4,e5⟩,hp,hf⟩:=HZ.o.2.2.2;refine⟨ns',l',v,w.heap.size,by rw[e0,e1,e2,e3,e4,e5],λk hk=>?_,hf,zc8 HZ.o.2.2.1 (Nat.le_refl _) _ _ _ _ _ _⟩;exact zI9 (hp k hk) oM _ _ _ _ _ _
 ·have HU0:Hi (w1.ownsRow (w.heap.size+1) 78 6 (.slice o0 n p0) n (xOf ns ns.length l 0)):=by
   have h:=HU.o 0 dC;rw[HEE.o.1,show nOf ns.length l 0=n from HN.o.1.symm]at h;exact h
  obtain⟨b0,q0,e0,hb0⟩:=yK9 HU0.o hn
  injection e0 with e _ e'
  subst e e';have hc0:n<=p0:=yy2 HU0.o _ _ _ rfl;have hc2:(k:Int)<=(p0:Int):=oM;clear hc0 HU0
  go_upto_region 13 with (fail)
  have HZ:Hi (PrZ w (w1.alloc (.cells #[.slice (sA b0 0) k p0,.slice o1 n1 p1,.slice o2 n2 p2,.slice o3 n p3,.slice o4 n4 p4,.slice o5 n p5] 33)) w1.heap.size (.slice (sA b0 0) k p0) (.slice o1 n1 p1) (.slice o2 n2 p2) (.slice o3 n p3) (.slice o4 n4 p4) (.slice o5 n p5)):=by refine⟨za3 _ _,HX.o.below ((Ok.refl _).alloc _),HK.o.alloc _,ns.take k,l,AU u 0 (.slice (sA b0 0) k p0),⟨rfl,HEE.o.2⟩,wf7 (wp9 HU.o HEE.o.1 HN.o.1 hkn) _,λn hn=>HA.o.2 n (List.mem_of_mem_take hn)⟩
  clear hc2 hb0;obtain⟨Z,hZ⟩:=qq ((w1.alloc (.cells #[.slice (some ⟨b0,0,none⟩) k p0,.slice o1 n1 p1,.slice o2 n2 p2,.slice o3 n p3,.slice o4 n4 p4,.slice o5 n p5] 33)));rw[<-hZ]at HZ ⊢;clear hZ h1 h2 h3 hk hr v3 v4 v5 hn hkn;obtain⟨t0,t1,t2,t3,t4,t5,lgt⟩:=EZ HZ.o.1;obtain⟨z1,c0,c1,c2,c3,c4',c5⟩:=HZ.o.2.1.pc;have wf:=HZ.o.2.1.warm;go_wp2_with fail
  try simp only[Exit.inBlock,Exit.then]
  refine bodyPost_ret (results_cell_row rfl _ _ w.heap.size 33 #[_,_,_,_,_,_] (0,0) _ rfl (zc9 HZ.o.2.1.heap _ _ _ _ _ _) Tryz.underlying33 rfl Tryz.info33) rfl ?_;obtain⟨ns',l',v,⟨e0,e1,e2,e3,e4,e5⟩,hp,hf⟩:=HZ.o.2.2.2;refine⟨ns',l',v,w.heap.size,by rw[e0,e1,e2,e3,e4,e5],λk hk=>?_,hf,zc8 HZ.o.2.2.1 (Nat.le_refl _) _ _ _ _ _ _⟩;exact zI9 (hp k hk) oM _ _ _ _ _ _
 have H3:Hi (w1.ownsRow (w.heap.size+1) 3 1 (.slice o5 n p5) n (xOf ns ns.length l 5)):=by have h:=HU.o 5 dC;rw[HEE.o.2.2.2.2.2,show nOf ns.length l 5=n from HL.o.2.1.trans HN.o.1.symm]at h;exact h
 obtain⟨b3,q3,e3,hb3⟩:=yK9 H3.o hn
 injection e3 with e _ e'
 subst e e';obtain⟨y,hy⟩:∃y,l.so[k]?=some y:=⟨_,gG_ (by have:=HN.o.1;have:=HL.o.2.1;omega)⟩;have d1:=wo9 H3.o (show(xOf ns ns.length l 5)[k]?=some (nI y) by show(l.so.map _)[k]?=_;rw[List.getElem?_map,hy];rfl);have lg:=(H3.o.lt b3 rfl).2;have fr:=yH9 H3.o k;clear hy
 go_upto_region 13 with (fail)
 have hs:(w1.setCell (aD b3 k) (nI (wrap64 (y+1)))).heap.size=w1.heap.size:=by simp
 have HZ:Hi (PrZ w ((w1.setCell (aD b3 k) (nI (wrap64 (y+1)))).alloc (.cells #[.slice o0 n p0,.slice o1 n1 p1,.slice o2 n2 p2,.slice o3 n p3,.slice o4 n4 p4,.slice (sA b3 0) n p5] 33)) w1.heap.size (.slice o0 n p0) (.slice o1 n1 p1) (.slice o2 n2 p2) (.slice o3 n p3) (.slice o4 n4 p4) (.slice (sA b3 0) n p5)):=by refine⟨by rw[<-hs];exact za3 _ _,(HX.o.kept (Below.heap_setCell _ _ _ _ (by show w.heap.size≠b3;omega))).below ((Ok.refl _).alloc _),(HK.o.set (p:=⟨b3,k,none⟩) (by show w.heap.size<=b3;omega) _).alloc _,ns,_,u,HEE.o,wf7 (wt9 HU.o HA.o.1 HEE.o.2.2.2.2.2 (HN.o.1.trans HL.o.2.1.symm) hkn _) _,HA.o.2⟩
 clear hs d1 lg fr hb3;obtain⟨Z,hZ⟩:=qq (((w1.setCell ⟨b3,k,none⟩ (nI (wrap64 (y+1)))).alloc (.cells #[.slice o0 n p0,.slice o1 n1 p1,.slice o2 n2 p2,.slice o3 n p3,.slice o4 n4 p4,.slice (some ⟨b3,0,none⟩) n p5] 33)));rw[<-hZ]at HZ ⊢;clear hZ h1 h2 h3 hk hr v3 v4 v5 hn hkn;obtain⟨t0,t1,t2,t3,t4,t5,lgt⟩:=EZ HZ.o.1;obtain⟨z1,c0,c1,c2,c3,c4',c5⟩:=HZ.o.2.1.pc;have wf:=HZ.o.2.1.warm;go_wp2_with fail
 try simp only[Exit.inBlock,Exit.then]
 refine bodyPost_ret (results_cell_row rfl _ _ w.heap.size 33 #[_,_,_,_,_,_] (0,0) _ rfl (zc9 HZ.o.2.1.heap _ _ _ _ _ _) Tryz.underlying33 rfl Tryz.info33) rfl ?_;obtain⟨ns',l',v,⟨e0,e1,e2,e3,e4,e5⟩,hp,hf⟩:=HZ.o.2.2.2;refine⟨ns',l',v,w.heap.size,by rw[e0,e1,e2,e3,e4,e5],λk hk=>?_,hf,zc8 HZ.o.2.2.1 (Nat.le_refl _) _ _ _ _ _ _⟩;exact zI9 (hp k hk) oM _ _ _ _ _ _
end Go.Proofs.YtpongdpnbclchaaGreatDoor
