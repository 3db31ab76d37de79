import Derived.Test.YthoegkcpmgalbaaGreatDoorKCreq
set_option maxHeartbeats 8000000
set_option linter.all false
namespace Go.Proofs.YthoegkcpmgalbaaGreatDoor
open Go.RowKit
variable{n:Nd}{ns:List Nd}{v v1 v2 v3 v4 v5:Value}{w w1:World}
def wi6.below{l:List ByteArray}(h:wi6 w v l)(D:Below w.heap.size w w1):wi6 w1 v l:=by obtain⟨z,d,cap,e,k⟩:=h;exact⟨z,d,cap,e,k.imp id (λ⟨b,o,e,s⟩=>⟨b,o,e,s.below D⟩)⟩
def wd8.below{l:List Int}(h:wd8 w v l)(D:Below w.heap.size w w1):wd8 w1 v l:=by obtain⟨z,d,cap,e,k⟩:=h;exact⟨z,d,cap,e,k.imp id (λ⟨b,o,e,s⟩=>⟨b,o,e,s.below D⟩)⟩
def wi8.below{l:List (ByteArray×Int)}(h:wi8 w v l)(D:Below w.heap.size w w1):wi8 w1 v l:=by obtain⟨z,d,cap,e,k⟩:=h;exact⟨z,d,cap,e,k.imp id (λ⟨b,o,e,s⟩=>⟨b,o,e,s.below D⟩)⟩
structure Ls where
 sc:List ByteArray
 ar:List (ByteArray×Int)
 sy:List Int
 si:List Int
 so:List Int
structure wk2(w:World)(v1 v2 v3 v4 v5:Value)(l:Ls):Prop where
 sc:wi6 w v1 l.sc
 ar:wi8 w v2 l.ar
 sy:wd8 w v3 l.sy
 si:wd8 w v4 l.si
 so:wd8 w v5 l.so
def wk2.below{l:Ls}(h:wk2 w v1 v2 v3 v4 v5 l)(d:Below w.heap.size w w1):wk2 w1 v1 v2 v3 v4 v5 l:=⟨h.sc.below d,h.ar.below d,h.sy.below d,h.si.below d,h.so.below d⟩
def AY(l m:Ls):Bool:=AJ EL l.sc m.sc&&AJ EO l.ar m.ar&&AJ DE l.sy m.sy&&AJ DE l.si m.si&&AJ DE l.so m.so
structure PC(w:World)(g:Nat)(v0 v1 v2 v3 v4 v5:Value):Prop where
 lt:g<w.heap.size
 c0:w.cell? (aD g 0)=some v0
 c1:w.cell? (aD g 1)=some v1
 c2:w.cell? (aD g 2)=some v2
 c3:w.cell? (aD g 3)=some v3
 c4:w.cell? (aD g 4)=some v4
 c5:w.cell? (aD g 5)=some v5
def PC.below{g:Nat}{d:Value}(h:PC w g d v1 v2 v3 v4 v5)(D:Below w.heap.size w w1):PC w1 g d v1 v2 v3 v4 v5 :=
 have k:∀o,w1.cell? (aD g o)=w.cell? (aD g o):=λo=>D.cell (p:=⟨g,o,none⟩) h.lt
 ⟨lL_ h.lt D.size,(k 0).trans h.c0,(k 1).trans h.c1,(k 2).trans h.c2,(k 3).trans h.c3,(k 4).trans h.c4,(k 5).trans h.c5⟩
def PC.new(w:World)(d v1 v2 v3 v4 v5:Value):PC (w.alloc (.cells #[d,v1,v2,v3,v4,v5] 30)) w.heap.size d v1 v2 v3 v4 v5 :=
 ⟨by simp,by simp[go_sem],by simp[go_sem],by simp[go_sem],by simp[go_sem],by simp[go_sem],by simp[go_sem]⟩
def zy5(v0 v1 v2 v3 v4 v5 u0 u1 u2 u3 u4 u5:Value)(l m:Ls)(w:World)(L:wk2 w v1 v2 v3 v4 v5 l)(d:wk2 w u1 u2 u3 u4 u5 m) :
  Calls Tryz.prog 91 #[.agg #[v0,v1,v2,v3,v4,v5],.agg #[u0,u1,u2,u3,u4,u5]] w λe w'=>e=.returned (.bool (AY l m))/\Below w.heap.size w w':=by
 have D:Hi (Below w.heap.size w ((w.alloc (Obj.cells #[v0,v1,v2,v3,v4,v5] 30)).alloc (Obj.cells #[u0,u1,u2,u3,u4,u5] 30))):=((Below.refl _ _).alloc (nR_ _) _).alloc sI _;have J:Hi (PC ((w.alloc (Obj.cells #[v0,v1,v2,v3,v4,v5] 30)).alloc (Obj.cells #[u0,u1,u2,u3,u4,u5] 30)) w.heap.size v0 v1 v2 v3 v4 v5):=(PC.new w v0 v1 v2 v3 v4 v5).below ((Below.refl _ _).alloc (nR_ _) _)
 have K:Hi (PC ((w.alloc (Obj.cells #[v0,v1,v2,v3,v4,v5] 30)).alloc (Obj.cells #[u0,u1,u2,u3,u4,u5] 30)) (w.heap.size+1) u0 u1 u2 u3 u4 u5):=by have:=PC.new (w.alloc (Obj.cells #[v0,v1,v2,v3,v4,v5] 30)) u0 u1 u2 u3 u4 u5;rw[show(w.alloc (Obj.cells #[v0,v1,v2,v3,v4,v5] 30)).heap.size=w.heap.size+1 from by simp]at this;exact this
 have I:Hi _:=L.below D.o;have G:Hi _:=d.below D.o;clear L d;go_enter Tryz.func91,Tryz.ntmps91;go_wp2_with fail;obtain⟨w0,d⟩:=qq ((w.alloc (Obj.cells #[v0,v1,v2,v3,v4,v5] 30)).alloc (Obj.cells #[u0,u1,u2,u3,u4,u5] 30));rw[<-d]at D J K I G;rw[<-d];clear d;refine mq (zS7 _ _ _ _ _ I.o.sc G.o.sc) λw1 d=>?_;have O:=hid (D.o.trans (d.mono D.o.size));have L:Hi _:=J.o.below d;have Y:Hi _:=K.o.below d;have R:Hi _:=I.o.below d;have X:Hi _:=G.o.below d;clear d I G J K;have z1:=L.o.c2;have y1:=Y.o.c2;cases h1:AJ EL l.sc m.sc
 ·have G:Hi (AY l m=false):=by unfold Hi AY;rw[h1];simp
  go_wp2_with fail;go_ret;exact⟨za4 G.o.symm,O.o⟩
 go_wp2_with fail;refine mq (zS8 _ _ _ _ _ R.o.ar X.o.ar) λw2 d=>?_;have J:=hid (O.o.trans (d.mono O.o.size));have Z:Hi _:=L.o.below d;have W:Hi _:=Y.o.below d;have I:Hi _:=R.o.below d;have K:Hi _:=X.o.below d;clear d R X L Y;have z2:=Z.o.c3;have y2:=W.o.c3;cases h2:AJ EO l.ar m.ar
 ·have G:Hi (AY l m=false):=by unfold Hi AY;rw[h1,h2];simp
  go_wp2_with fail;go_ret;exact⟨za4 G.o.symm,J.o⟩
 go_wp2_with fail;refine mq (zp4 _ _ _ _ _ I.o.sy K.o.sy) λw3 d=>?_;have R:=hid (J.o.trans (d.mono J.o.size));have a1:Hi _:=Z.o.below d;have Y:Hi _:=W.o.below d;have X:Hi _:=I.o.below d;have a2:Hi _:=K.o.below d;clear d I K Z W;have z3:=a1.o.c4;have y3:=Y.o.c4;cases h3:AJ DE l.sy m.sy
 ·have G:Hi (AY l m=false):=by unfold Hi AY;rw[h1,h2,h3];simp
  go_wp2_with fail;go_ret;exact⟨za4 G.o.symm,R.o⟩
 go_wp2_with fail;refine mq (zp4 _ _ _ _ _ X.o.si a2.o.si) λw4 d=>?_;have L:=hid (R.o.trans (d.mono R.o.size));have I:Hi _:=a1.o.below d;have K:Hi _:=Y.o.below d;have W:Hi _:=X.o.below d;have Z:Hi _:=a2.o.below d;clear d X a2 a1 Y;have z4:=I.o.c5;have y4:=K.o.c5;cases Y:AJ DE l.si m.si
 ·have G:Hi (AY l m=false):=by unfold Hi AY;rw[h1,h2,h3,Y];simp
  go_wp2_with fail;go_ret;exact⟨za4 G.o.symm,L.o⟩
 go_wp2_with fail;refine mq (zp4 _ _ _ _ _ W.o.so Z.o.so) λw5 d=>?_;have X:=hid (L.o.trans (d.mono L.o.size));have a4:Hi _:=I.o.below d;have a5:Hi _:=K.o.below d;have a3:Hi _:=W.o.below d;have a6:Hi _:=Z.o.below d;clear d W Z I K;have G:Hi (AY l m=AJ DE l.so m.so):=by unfold Hi AY;rw[h1,h2,h3,Y];simp
 go_wp2_with fail;go_ret;exact⟨za4 G.o.symm,X.o⟩
def Tryz.info30:(Tryz.prog.info? 30).map (·.size)=some 6:=by kernel_rfl
def zO4(w:World)(o:Obj):(w.alloc o).drew.heap[w.heap.size]?=some o:=by show(w.heap.push o)[w.heap.size]?=some o;simp
def zO5(b n cap:Nat)(d:Option Addr)(r:Rd)(w:World)(h:CA w b r)(Z:n<=300) :
  Calls Tryz.prog 92 #[pA b 0,.slice d n cap] w λe w'=>e=.returned (.agg #[.slice d n cap,.slice (sA b 0) r.sc.length 8,.slice (sA b 8) r.ar.length 3,.slice (sA b 16) n 300,.slice (sA b 616) r.si.length 12,.slice (sA b 316) n 300])/\Below w.heap.size w w':=by
 have Y:=h.names.sn;have W:=h.names.aln;have O:=h.rest.found;have I:=h.names.lt;have R:=h.names.sl;have L:=h.names.al;have X:=h.rest.sites;have J:(r.sc.length:Int)<=8:=oM;have D:(r.ar.length:Int)<=3:=oM;have G:(r.si.length:Int)<=12:=oM;have o:(n:Int)<=300:=oM;have K:¬b=w.heap.size:=oM;clear h;go_enter Tryz.func92,Tryz.ntmps92;go_wp2_with fail
 go_region
 go_wp2_with fail
 try simp only[Exit.inBlock,Exit.then]
 refine bodyPost_ret (results_cell_row rfl _ _ w.heap.size 30 _ (0,0) _ rfl (zO4 _ _) Tryz.underlying30 rfl Tryz.info30) rfl ?_;exact⟨rfl,((Below.refl _ _).alloc (nR_ _) _).drew⟩
def zX8:Tryz.zeroCells188.size=654:=by kernel_rfl
def yw4:Tryz.zeroCells188.toList.drop 629=List.replicate 25 (.bool false):=by kernel_rfl
def yw5:Tryz.zeroCells188[14]?=some (nI 0):=by kernel_rfl
def yw6:Tryz.zeroCells188[15]?=some (nI 0):=by kernel_rfl
def yl8:Tryz.zeroCells188[628]?=some (nI 0):=by kernel_rfl
def zo3(w:World)(cs:Array Value)(t:TypeId)(o:Nat):(w.alloc (.cells cs t (0,0))).cell? (aD w.heap.size o)=cs[o]?:=by simp[go_sem]
def zO6(w:World):CA (w.alloc (.cells Tryz.zeroCells188 188 (0,0))) w.heap.size rd0:=by
 have K:=zX8
 have nu:∀d,d<25->Tryz.zeroCells188[629+d]?=some (.bool false):=λd I=>by have h:=cA (λl=>l[d]?) yw4;simp only[cQ,dS]at h;rw[aG I]at h;rw[<-fO];exact h
 have G:∀o,o<654->∃v,(w.alloc (.cells Tryz.zeroCells188 188 (0,0))).cell? (aD w.heap.size o)=some v:=λo J=>by rw[zo3];exact⟨_,gN (by rw[K];exact J)⟩
 refine⟨⟨by simp,by simp[rd0],by simp[rd0],λi D=>absurd D (by simp[rd0]),λi D=>absurd D (by simp[rd0]),λi D=>absurd D (by simp[rd0]),?_,?_,λi D=>G i oM,λi=>by simp[go_sem]⟩,⟨rfl,by simp[rd0],by simp[rd0],λi D=>absurd D (by simp[rd0]),λi D=>absurd D (by simp[rd0]),λi D=>absurd D (by simp[rd0]),?_,λd I=>?_,λo _ J=>G o J⟩⟩
 ·rw[zo3];exact yw5
 ·rw[zo3];exact yw6
 ·rw[zo3];exact yl8
 rw[zo3];exact nu d I
def zX9(ao:Option Addr)(cap:Nat)(w:World)(d:BE w) :
  Calls Tryz.prog 121 #[.slice ao 0 cap] w λe w'=>e=.returned (.tuple #[nI 0,nI 0])/\Below w.heap.size w w':=by
 have L:Hi _:=d;clear d;go_enter Tryz.func121,Tryz.ntmps121;go_wp2_with fail;go_loopw [12] (λt wr=>t=nI 0/\Hi (Below w.heap.size w wr)/\Hi (CR wr w.heap.size [] false)) (λt _=>0)
 case atStart=>exact⟨rfl,(Below.refl _ _).alloc (nR_ _) _,zP4 w⟩
 obtain⟨rfl,G,J⟩:=hrel;have I:Hi _:=L.o.below G.o;have O:=G.o.size;go_wp2_with fail;refine mq (zj3 _ 0 [] false _ sI sI (λh K=>absurd K sI) I.o J.o) λw1 d=>?_;have D:=hid (G.o.trans (d.mono O));clear d;have d:CS (List.drop 0 [])=false:=rfl;rw[d];go_wp2_with fail
 go_ret2
 exact⟨rfl,D.o⟩
def zO7(b cap:Nat)(D:Option Addr)(w:World)(d:BE w) :
  Calls Tryz.prog 90 #[pA b 0,.slice D 0 cap] w λe w'=>e=.returned (.tuple #[nI 0,nI 0])/\Below w.heap.size w w':=by
 have I:Hi (∀_:Unit,Calls Tryz.prog 121 #[.slice D 0 cap] w λe w'=>e=.returned (.tuple #[nI 0,nI 0])/\Below w.heap.size w w'):=λ_=>zX9 D cap w d;clear d;go_enter Tryz.func90,Tryz.ntmps90;go_wp2_with fail;refine mq (I.o ()) λw1 d=>?_;have G:Hi _:=d;clear d;go_wp2_with fail;go_loopw [22] (λt wr=>t=nI 0/\Hi (Below w.heap.size w wr)) (λt _=>0)
 case atStart=>exact⟨rfl,G.o⟩
 obtain⟨rfl,d⟩:=hrel;go_wp2_with fail
 go_ret2
 exact⟨rfl,d.o⟩
def DF(w:World)(v:Value)(ns:List Nd):Prop:=(∀n∈ns,n.Ok)/\∃ao cap,v=.slice ao ns.length cap/\ns.length<=cap/\cap<=maxLen/\(ns=[]\/∃b o,ao=some ⟨b,o,none⟩/\AV w b o ns)
def DF.below{l:List Nd}(h:DF w v l)(I:Below w.heap.size w w1):DF w1 v l:=by obtain⟨G,d,cap,e,z,D,k⟩:=h;exact⟨G,d,cap,e,z,D,k.imp id (λ⟨b,o,e,s⟩=>⟨b,o,e,s.below I⟩)⟩
def BU(r:Rd):Ls:=⟨r.sc,r.ar.map (λa:ByteArray×Nat=>(a.1,(a.2:Int))),r.sy,r.si.map (λi:Nat=>(i:Int)),r.so⟩
def DG(ns:List Nd)(l:Ls):Bool:=decide ((AP ns rd0).1=0)&&AY l (BU (AP ns rd0).2.2)
def zq6:∀(ns:List Nd) (r:Rd),(BM ns r).1=0->(BM ns r).2.2.sy.length=r.sy.length+ns.length
 | [],r,_=>by simp[BM]
 | n::t,r,h=>by
  rw[BM]at h ⊢;by_cases d:(CT r r.sy.length n).1=0
  ·rw[aG d]at h ⊢
   rw[zq6 t _ h,yv1 r _ n d];simp;omega
  rw[aC d]at h;exact absurd h d
def zj1(ns:List Nd)(h:(AP ns rd0).1=0):(AP ns rd0).2.2.sy.length=ns.length/\ns.length<=300:=by
 unfold AP at h ⊢;by_cases d:(BL ns).1=0
 ·rw[aG d]at h ⊢
  refine⟨?_,(zn9 ns d).1⟩;rw[zq6 ns rd0 h];simp[rd0]
 rw[aC d]at h;exact absurd h d
def zY0{b n:Nat}{r:Rd}(h:CA w b r)(D:r.sy.length=n) :
  wk2 w (.slice (sA b 0) r.sc.length 8) (.slice (sA b 8) r.ar.length 3) (.slice (sA b 16) n 300) (.slice (sA b 616) r.si.length 12) (.slice (sA b 316) n 300) (BU r):=by
 have K:=h.names.sl;have I:=h.names.al;have J:=h.rest.sites;have G:=h.rest.most;have o:=h.rest.len;have L:1000<=maxLen:=by decide
 subst D;refine⟨⟨by simp only[BU];omega,_,_,rfl,.inr ⟨b,0,rfl,⟨h.names.lt,λi d=>by rw[aL];exact h.names.str i d⟩⟩⟩,⟨by simp only[BU,aM];omega,_,3,by simp only[BU,aM],.inr ⟨b,8,rfl,⟨h.names.lt,λi d=>?_,λi d=>?_⟩⟩⟩,⟨by simp only[BU];omega,_,_,rfl,.inr ⟨b,16,rfl,⟨h.names.lt,λi d=>h.rest.sy i d⟩⟩⟩,⟨by simp only[BU,aM];omega,_,12,by simp only[BU,aM],.inr ⟨b,616,rfl,⟨h.names.lt,λi d=>?_⟩⟩⟩,⟨by simp only[BU];omega,_,300,by simp only[BU,o],.inr ⟨b,316,rfl,⟨h.names.lt,λi d=>h.rest.so i d⟩⟩⟩⟩
 ·simp only[BU,aM]at d
  simp only[BU,hI];exact h.names.an i d
 ·simp only[BU,aM]at d
  simp only[BU,hI];exact h.names.av i d
 simp only[BU,aM]at d;simp only[BU,hI];exact h.rest.si i d
def zD3:AP [] rd0=(0,0,rd0):=by
 have d:(BL []).1=0:=by decide +kernel
 unfold AP;rw[aG d];rfl
def zO8(b:Nat)(v:Value)(ns:List Nd)(w:World)(J:BE w)(R:DF w v ns)(X:∀g,g<b->g≠b)(K:∀D o cap,v=.slice (sA D o) ns.length cap->ns≠[]->D≠b)(h:CA w b rd0) :
  Calls Tryz.prog 90 #[pA b 0,v] w λe w'=>e=.returned (.tuple #[nI (AP ns rd0).1,nI (AP ns rd0).2.1])/\AB b w w'/\((AP ns rd0).1=0->CA w' b (AP ns rd0).2.2):=by
 obtain⟨L,W,cap,rfl,I,G,k⟩:=R;rcases k with rfl | ⟨D,o,rfl,hn⟩
 ·rw[zD3]
  refine mq (zO7 b cap W w J) λw' d=>?_;exact⟨rfl,AB.of d,λ_=>h.below d⟩
 by_cases O:ns=[]
 ·subst O
  rw[zD3];refine mq (zO7 b cap _ w J) λw' d=>?_;exact⟨rfl,AB.of d,λ_=>h.below d⟩
 exact ym1 b D o cap ns w L J hn I G (K D o cap rfl O) h
structure BV(w:World)(v0 v1 v2 v3 v4 v5:Value)(ns:List Nd)(l:Ls):Prop where
 nodes:DF w v0 ns
 lists:wk2 w v1 v2 v3 v4 v5 l
def BV.below{v0:Value}{l:Ls}(h:BV w v0 v1 v2 v3 v4 v5 ns l)(d:Below w.heap.size w w1):BV w1 v0 v1 v2 v3 v4 v5 ns l:=⟨h.nodes.below d,h.lists.below d⟩
def zO9(v0 v1 v2 v3 v4 v5:Value)(ns:List Nd)(l:Ls)(w:World)(W:BE w)(h:BV w v0 v1 v2 v3 v4 v5 ns l) :
  Calls Tryz.prog 58 #[.agg #[v0,v1,v2,v3,v4,v5]] w λe w'=>e=.returned (.bool (DG ns l))/\Below w.heap.size w w':=by
 have G:Hi (Below w.heap.size w ((w.alloc (.cells #[v0,v1,v2,v3,v4,v5] 30)).alloc (.cells Tryz.zeroCells188 188))):=((Below.refl _ _).alloc (nR_ _) _).alloc sI _;have d:Hi (PC ((w.alloc (.cells #[v0,v1,v2,v3,v4,v5] 30)).alloc (.cells Tryz.zeroCells188 188)) w.heap.size v0 v1 v2 v3 v4 v5):=(PC.new w v0 v1 v2 v3 v4 v5).below ((Below.refl _ _).alloc (nR_ _) _)
 have R:Hi (CA ((w.alloc (.cells #[v0,v1,v2,v3,v4,v5] 30)).alloc (.cells Tryz.zeroCells188 188)) (w.heap.size+1) rd0):=by have:=zO6 (w.alloc (.cells #[v0,v1,v2,v3,v4,v5] 30));rw[show(w.alloc (.cells #[v0,v1,v2,v3,v4,v5] 30)).heap.size=w.heap.size+1 from by simp]at this;exact this
 have L:Hi _:=W.below G.o;have K:Hi _:=h.nodes.below G.o
 have a2:Hi (∀nb o cap,v0=.slice (sA nb o) ns.length cap->ns≠[]->nb≠w.heap.size+1):=by
  intro nb o cap e D;obtain⟨_,O,I,J,_,_,k⟩:=h.nodes;obtain⟨b,Z,rfl,X⟩:=k.resolve_left D;have Y:=X.lt;rw[e]at J
  injection J with e1 e2 e3
  injection e1 with e4
  injection e4 with e5
  omega
 have HL:Hi _:=h.lists
 have HV:Hi (∃O cap,v0=.slice O ns.length cap):=by obtain⟨_,O,cap,e,_⟩:=h.nodes;exact⟨O,cap,e⟩
 clear W h;have I:Hi (∃q,q=AP ns rd0):=⟨_,rfl⟩;obtain⟨⟨D,a9,X⟩,J⟩:=I.o;have W:Hi _:=J.symm;clear J I
 have a3:Hi (∀w',BE w'->DF w' v0 ns->CA w' (w.heap.size+1) rd0->Calls Tryz.prog 90 #[.pointer (some ⟨w.heap.size+1,0,none⟩),v0] w' λe a1=>e=.returned (.tuple #[nI D,nI a9])/\AB (w.heap.size+1) w' a1/\(D=0->CA a1 (w.heap.size+1) X)):=λw' h1 h2 h3=>by have:=zO8 (w.heap.size+1) v0 ns w' h1 h2 (λg I=>oM) a2.o h3;rw[W.o]at this;exact this
 go_enter Tryz.func58,Tryz.ntmps58;go_wp2_with fail;obtain⟨w0,I⟩:=qq ((w.alloc (.cells #[v0,v1,v2,v3,v4,v5] 30)).alloc (.cells Tryz.zeroCells188 188));have a8:Hi (w0.heap.size=w.heap.size+2):=by unfold Hi;rw[I];simp
 rw[<-I]at G d R L K;rw[<-I];clear I;refine mq (a3.o _ L.o K.o R.o) λw1 ⟨J,a4⟩=>?_;have I:Hi (Below w.heap.size w w1):=J.below G.o oM (oH a8.o)
 have Y:Hi (PC w1 w.heap.size v0 v1 v2 v3 v4 v5):=by have k:∀o,w1.cell? (aD w.heap.size o)=w0.cell? (aD w.heap.size o):=λo=>J.cell oM d.o.lt;exact⟨lL_ d.o.lt J.low.size,(k 0).trans d.o.c0,(k 1).trans d.o.c1,(k 2).trans d.o.c2,(k 3).trans d.o.c3,(k 4).trans d.o.c4,(k 5).trans d.o.c5⟩
 have a5:Hi _:=HL.o.below I.o;have Z:Hi _:=a4;clear J a4 a3 HL a2 L K R d G;obtain⟨z1,c0,c1,c2,c3,c4,c5⟩:=Y.o;by_cases hc:D=0
 case neg =>
  have d:(D==0)=false:=by rw[aF];exact hc
  have HE:Hi (DG ns l=false):=by unfold Hi DG;rw[W.o];simp[hc]
  go_wp2_with fail
  go_region
  go_wp2_with fail;go_ret;exact⟨za4 HE.o.symm,I.o.drew⟩
 subst hc;have HE:Hi (DG ns l=AY l (BU X)):=by unfold Hi DG;rw[W.o];simp
 have R:Hi (CA w1 (w.heap.size+1) X):=Z.o rfl
 have J:Hi (X.sy.length=ns.length/\ns.length<=300):=by have:=zj1 ns (by rw[W.o]);rw[W.o]at this;exact this
 obtain⟨O,cap,rfl⟩:=HV.o;clear Z W HV;go_wp2_with fail
 go_region_held3 (λw'=>w'.cell? (aD w.heap.size 0)=some (.slice O ns.length cap)/\w'.cell? (aD w.heap.size 1)=some v1/\w'.cell? (aD w.heap.size 2)=some v2/\w'.cell? (aD w.heap.size 3)=some v3/\w'.cell? (aD w.heap.size 4)=some v4/\w'.cell? (aD w.heap.size 5)=some v5) (go_keep)
  (first
  |(go_at_call 92;refine mq (zO5 (w.heap.size+1) ns.length cap O X _ (R.o.below (Below.refl _ _).drew) J.o.2) λw2 d=>?_;have K:Hi _:=(Y.o.below (Below.refl _ _).drew).below d;obtain⟨z2,p0,p1,p2,p3,p4,p5⟩:=K.o;have W:Hi _:=(a5.o.below (Below.refl _ _).drew).below d;have Z:Hi _:=(R.o.below (Below.refl _ _).drew).below d;have G:=hid (I.o.drew.trans (d.mono I.o.size)))
  |(go_at_call 91;refine mq (zy5 _ _ _ _ _ _ _ _ _ _ _ _ l (BU X) _ W.o (zY0 Z.o J.o.1)) λw3 L=>?_;have a7:Hi _:=K.o.below L;obtain⟨z3,q0,q1,q2,q3,q4,q5⟩:=a7.o;have a6:=hid (G.o.trans (L.mono G.o.size))))
 go_wp2_with fail;go_ret;exact⟨za4 HE.o.symm,a6.o⟩
def nd0:Nd:=⟨0,0,⟨#[]⟩,0,0,0⟩
def BZ(ns:List Nd)(d:Int):Nat->Int
 | 0 => -1
 | k+1=>if (ns.getD k nd0).depth<d then (k:Int) else BZ ns d k
def zS4(nb o cap i:Nat)(ns:List Nd)(w:World)(hi:i<ns.length)(hl:ns.length<=300)(h:AV w nb o ns) :
  Calls Tryz.prog 119 #[.slice (sA nb o) ns.length cap,nI i] w λe w'=>e=.returned (nI (BZ ns ns[i].depth i))/\∃n,w'=w.drewN n:=by
 have HC:Hi _:=h;have ci:=h.c0 i hi;have a3:=h.lt;have a2:(i:Int)<ns.length:=oM;have X:(ns.length:Int)<=300:=oM;have I:IntKind.i64.wrap ((i:Int)-1)=(i:Int)-1:=Go.IntWalk.i64_in _ oM;clear h;obtain⟨d,D⟩:=qq (ns[i].depth);have a4:=hid D.symm;rw[<-D]at ci ⊢;clear D;go_enter Tryz.func119,Tryz.ntmps119;go_wp2_with fail;go_loopw [5] (λt wr=>∃j:Nat,j<=i/\t=nI ((j:Int)-1)/\Hi (BZ ns d i=BZ ns d j)/\Hi (∃n,wr=w.drewN n)) (λt _=>(intOf t+1).toNat)
 case atStart=>exact⟨i,aK _,by first | rfl | (rw[I]),rfl,0,rfl⟩
 obtain⟨j,hj,rfl,J,R⟩:=hrel;obtain⟨m,Y⟩:=R.o;subst Y
 cases j with
 | zero =>
  have G:=hid J.o;go_wp2_with fail;go_ret;exact⟨zl6 G.o.symm,_,rfl⟩
 | succ k =>
  have L:k<ns.length:=oM;have ck:=HC.o.c0 k L
  have D:Hi (BZ ns d i=if ns[k].depth<d then (k:Int) else BZ ns d k):=by unfold Hi;rw[J.o,BZ];simp[List.getD,L]
  have Z:(((k+1:Nat)):Int)-1=(k:Int):=oM;have W:(k:Int)<ns.length:=oM;have K:IntKind.i64.wrap ((k:Int)-1)=(k:Int)-1:=Go.IntWalk.i64_in _ oM;rw[Z];clear J R I;generalize ns[k].depth=x at *;by_cases O:x<d
  ·have G:Hi (BZ ns d i=(k:Int)):=by unfold Hi;rw[D.o,aG O]
   clear D;go_wp2_with fail;go_quiet (fail);go_wp2_with fail;go_ret;exact⟨zl6 G.o.symm,_,by first | exact(World.drewN_drewN ..) | rfl⟩
  have G:Hi (BZ ns d i=BZ ns d k):=by unfold Hi;rw[D.o,aC O]
  have a1:d<=x:=oM;clear D;go_wp2_with fail;go_quiet (fail);go_wp2_with fail;go_roundw
  case rel=>exact⟨k,oM,by first | rfl | (rw[K]),G,_,by first | exact(World.drewN_drewN ..) | rfl⟩
  case measure=>simp[intOf]<;>omega
def wb4(n:Nd):Bool:=if n.kind=5\/n.kind=7\/n.kind=8 then false else if n.kind=14 then n.op==1 else if n.kind=15 then (n.op != 14&&n.op != 15) else true
def zS5(nb o cap i k:Nat)(ns:List Nd)(w:World)(R:i<ns.length)(Y:ns.length<=300)(h:AV w nb o ns)(d:BZ ns ns[i].depth i=k)(D:k<ns.length) :
  Calls Tryz.prog 85 #[.slice (sA nb o) ns.length cap,nI i] w λe w'=>e=.returned (.bool (wb4 ns[k]))/\Below w.heap.size w w':=by
 have K:Hi (∀_:Unit,Calls Tryz.prog 119 #[.slice (sA nb o) ns.length cap,nI i] w λe w'=>e=.returned (nI k)/\∃n,w'=w.drewN n):=λ_=>by
  have:=zS4 nb o cap i ns w R Y h
  rwa [d]at this
 have I:Hi _:=h;have a1:=h.lt;have L:(k:Int)<ns.length:=oM;have O:(ns.length:Int)<=300:=oM;clear h d;obtain⟨n,d⟩:∃n,ns[k]=n:=⟨_,rfl⟩;rw[d];have W:Hi _:=d;clear d;go_enter Tryz.func85,Tryz.ntmps85;go_wp2_with fail;refine mq (K.o ()) λw1 ⟨m,J⟩=>?_;have G:Hi (Below w.heap.size w w1):=by rw[J];exact below_drewN (Below.refl _ _) _
 have d:Hi _:=I.o.below G.o;clear K J I;have c0:=d.o.c0 k D;have K:=d.o.c1 k D;have Z:=d.o.c2 k D;have X:=d.o.c3 k D;have c4:=d.o.c4 k D;have J:=d.o.c5 k D;have I:=d.o.lt;have a2:¬nb=w1.heap.size:=oM;rw[W.o]at c0 K Z X c4 J;go_wp2
 all_goals first
  |(exfalso;simp_all;done)
  |(go_ret;refine⟨za4 ?_,G.o.alloc G.o.size _⟩;simp only[bZ,aF,dO] at *;simp[wb4, *];done)
  |(go_ret;refine⟨za4 ?_,G.o.alloc G.o.size _⟩;simp only[bZ,aF,dO] at *;simp[wb4, *];omega)
  | trace_state
def AL(kind:Int)(v:List UInt8):List Nd->Int->Nat->Int×Nat
 | [],a,n=>(a,n)
 | m::t,a,n=>if m.kind≠0/\m.kind≠1 then (a,n) else if m.kind≠kind then AL kind v t a n else AL kind v t (if (m.name.toList==v)&&decide (a<0) then n else a) (n+1)
def AN(ns:List Nd)(kind:Int)(v:List UInt8)(to:Nat):Int×Nat:=AL kind v (ns.take to) (-1) 0
def zy6(kind:Int)(v:List UInt8)(ns:List Nd)(d i:Nat)(a:Int)(n:Nat)(h:i<d)(o:d<=ns.length) :
  AL kind v ((ns.take d).drop i) a n=if ns[i].kind≠0/\ns[i].kind≠1 then (a,n) else if ns[i].kind≠kind then AL kind v ((ns.take d).drop (i+1)) a n else AL kind v ((ns.take d).drop (i+1)) (if (ns[i].name.toList==v)&&decide (a<0) then n else a) (n+1):=by
 rw[aP (show i<(ns.take d).length by simp;omega),AL];simp only[eQ]
def zf8(nb o cap G:Nat)(kind:Int)(v:ByteArray)(ns:List Nd)(w:World)(ht:G<=ns.length)(hl:ns.length<=300)(d:kind=0\/kind=1)(h:AV w nb o ns) :
  Calls Tryz.prog 50 #[.slice (sA nb o) ns.length cap,nI kind,.string v,nI G] w λe w'=>e=.returned (.tuple #[nI (AN ns kind v.toList G).1,nI (AN ns kind v.toList G).2])/\w'=w:=by
 have R:Hi _:=h;have HK:Hi _:=d;have a2:=h.lt;have a1:(G:Int)<=ns.length:=oM;have X:(ns.length:Int)<=300:=oM;clear h d;go_enter Tryz.func50,Tryz.ntmps50;go_wp2_with fail
 go_loop [10,11,12] (λW Z ti=>∃(i n:Nat) (a:Int),i<=G/\n<=i/\W=nI a/\Z=nI n/\ti=nI i/\Hi (AN ns kind v.toList G=AL kind v.toList ((ns.take G).drop i) a n)) (λ_ _ ti=>G-(intOf ti).toNat)
 case atStart=>exact⟨0,0,-1,oM,oM,rfl,rfl,rfl,rfl⟩
 obtain⟨i,n,a,hi,hn,rfl,rfl,rfl,D⟩:=hrel;by_cases J:i<G
 ·have K:i<ns.length:=oM
  have c1:=R.o.c1 i K;have c2:=R.o.c2 i K;have a3:(i:Int)<ns.length:=oM;rw[zy6 kind v.toList ns G i a n J ht]at D;generalize ns[i].kind=k at *;generalize ns[i].name=nm at *;by_cases d:k≠0/\k≠1
  ·have I:(k==0)=false:=by rw[aF];exact d.1
   have O:(k==1)=false:=by rw[aF];exact d.2
   have L:(k != 0)=true:=by simp[d.1]
   have Y:(k != 1)=true:=by simp[d.2]
   have g0:¬k=0:=d.1;have g1:¬k=1:=d.2;rw[aG d]at D;clear d;go_wp2_with fail
   go_ret2
   rw[D.o];exact⟨rfl,rfl⟩
  rw[aC d]at D;have I:k=0\/k=1:=oM;clear d;by_cases d:k=kind
  ·rw[aC (by simp[d])]at D
   subst d
   cases Y:(nm.toList==v.toList)<;>rw[Y]at D
   ·rw[aC (by simp)]at D
    rcases I with rfl | rfl
    all_goals
     go_wp2_with fail
     go_round
     case rel=>exact⟨i+1,n+1,a,oM,oM,rfl,by go_num,by go_num,D⟩
     case measure=>simp[intOf];omega
   by_cases L:a<0
   ·rw[aG (by simp[L])]at D
    have O:decide (a<0)=true:=dT_ L;rcases I with rfl | rfl
    all_goals
     go_wp2_with fail
     go_round
     case rel=>exact⟨i+1,n+1,n,oM,oM,rfl,by go_num,by go_num,D⟩
     case measure=>simp[intOf];omega
   rw[aC (by simp[L])]at D;have O:decide (a<0)=false:=dF_ L;have a4:0<=a:=oM;rcases I with rfl | rfl
   all_goals
    go_wp2_with fail
    go_round
    case rel=>exact⟨i+1,n+1,a,oM,oM,rfl,by go_num,by go_num,D⟩
    case measure=>simp[intOf];omega
  rw[aG d]at D;have L:(k==kind)=false:=by rw[aF];exact d
  have O:((0:Int)==1)=false:=rfl;rcases I with rfl | rfl
  all_goals
   go_wp2_with fail
   go_round
   case rel=>exact⟨i+1,n,a,oM,oM,rfl,rfl,by go_num,D⟩
   case measure=>simp[intOf];omega
 have d:Hi (AN ns kind v.toList G=(a,n)):=by unfold Hi;rw[D.o,aU (by simp;omega)];rfl
 clear D;go_wp2_with fail
 go_ret2
 rw[d.o];exact⟨rfl,rfl⟩
def BN(kind num s a:Int)(ns na:Nat):Int :=
 if 0<=s\/0<=a then 40 else if kind=1/\(num<1\/16<num) then 43 else if kind=0/\8<=ns then 44 else if kind=1/\3<=na then 45 else 0
def EJ(ns:List Nd)(n:Nd)(i:Nat):Int:=BN n.kind n.num (AN ns 0 n.name.toList i).1 (AN ns 1 n.name.toList i).1 (AN ns 0 n.name.toList i).2 (AN ns 1 n.name.toList i).2
def zl2{a b:Int}(h:a=b):Ending.returned (nI a)=.returned (nI b):=by rw[h]
def zD4(nb o cap i:Nat)(ns:List Nd)(w:World)(D:i<ns.length)(hl:ns.length<=300)(h:AV w nb o ns) :
  Calls Tryz.prog 83 #[.slice (sA nb o) ns.length cap,nI i] w λe w'=>e=.returned (nI (EJ ns ns[i] i))/\Below w.heap.size w w':=by
 have c0:=h.c0 i D;have X:=h.c1 i D;have c2:=h.c2 i D;have Z:=h.c3 i D;have c4:=h.c4 i D;have W:=h.c5 i D;have a3:=h.lt;have a2:(i:Int)<ns.length:=oM;have a1:(ns.length:Int)<=300:=oM;have a4:¬nb=w.heap.size:=oM;obtain⟨n,R⟩:∃n,ns[i]=n:=⟨_,rfl⟩;rw[R]at c0 X c2 Z c4 W ⊢;have G:Hi (∀ob,Below w.heap.size w (w.alloc ob)):=λob=>(Below.refl _ _).alloc (nR_ _) _;obtain⟨⟨s,sn⟩,I⟩:∃p,p=AN ns 0 n.name.toList i:=⟨_,rfl⟩;obtain⟨⟨a,O⟩,K⟩:∃p,p=AN ns 1 n.name.toList i:=⟨_,rfl⟩
 have HS:Hi (∀w',Below w.heap.size w w'->Calls Tryz.prog 50 #[.slice (sA nb o) ns.length cap,nI 0,.string n.name,nI i] w' λe d=>e=.returned (.tuple #[nI s,nI sn])/\d=w'):=λw' J=>by
  have:=zf8 nb o cap i 0 n.name ns w' oM hl (.inl rfl) (h.below J)
  rwa [<-I]at this
 have Y:Hi (∀w',Below w.heap.size w w'->Calls Tryz.prog 50 #[.slice (sA nb o) ns.length cap,nI 1,.string n.name,nI i] w' λe d=>e=.returned (.tuple #[nI a,nI O])/\d=w'):=λw' J=>by
  have:=zf8 nb o cap i 1 n.name ns w' oM hl (.inr rfl) (h.below J)
  rwa [<-K]at this
 have L:Hi (EJ ns n i=BN n.kind n.num s a sn O):=by unfold Hi EJ;rw[<-I,<-K]
 rw[L.o];clear h R I K L;go_enter Tryz.func83,Tryz.ntmps83;go_wp2_with fail;refine mq (HS.o _ (G.o _)) λw1 rfl=>?_;go_wp2_with fail;refine mq (Y.o _ (G.o _)) λw1 rfl=>?_;clear HS Y;go_wp2
 all_goals
  go_ret;refine⟨zl2 ?_,G.o _⟩;clear G c0 X c2 Z c4 W;unfold BN
  repeat' split
 all_goals first
  | rfl
  | omega
  |(simp_all;done)
  |(simp_all;omega)
def CI(n:Nd)(dec s a:Int)(want:Bool)(sites:Nat):Int :=
 if n.kind=0\/n.kind=1 then dec
 else if 0<BB n/\s<0/\a<0 then 41
 else if 0<BB n/\((BB n==1) != decide (0<=s))=true then 42
 else if (BS n && !want)||(DM n&&want) then 42 else if BR n&&decide (12<=sites) then 46 else 0
def zw5(n:Nd){v:Bool}(h:BS n=v)(w:World):Calls Tryz.prog 84 #[DP n] w λe w'=>e=.returned (.bool v)/\Below w.heap.size w w':=by have:=zJ2 n w;rwa [h]at this
def zy7(n:Nd){v:Bool}(h:DM n=v)(w:World):Calls Tryz.prog 86 #[DP n] w λe w'=>e=.returned (.bool v)/\Below w.heap.size w w':=by have:=zZ2 n w;rwa [h]at this
def zk1(n:Nd){v:Bool}(h:BR n=v)(w:World):Calls Tryz.prog 51 #[DP n] w λe w'=>e=.returned (.bool v)/\Below w.heap.size w w':=by have:=zZ3 n w;rwa [h]at this
def zh1(n:Nd){v:Int}(h:BB n=v)(w:World):Calls Tryz.prog 49 #[DP n] w λe w'=>e=.returned (nI v)/\Below w.heap.size w w':=by have:=zT3 n w;rwa [h]at this
def yl9(h:BS n=true):DM n=false:=by
 revert h
 unfold BS DM
 repeat' split
 all_goals simp_all
 all_goals omega
def NdC.new(w:World)(n:Nd):NdC (w.alloc (.cells #[nI n.depth,nI n.kind,.string n.name,nI n.num,nI n.op,nI n.pos] 53)) w.heap.size n :=
 ⟨by simp,by simp[go_sem],by simp[go_sem],by simp[go_sem],by simp[go_sem],by simp[go_sem],by simp[go_sem]⟩
theorem zY1(nb o cap i sites:Nat)(ns:List Nd)(dec s a:Int)(want:Bool)(n:Nd)(w:World)(hi:i<ns.length)(hn:ns[i]=n)(hl:ns.length<=300)(hs12:sites<=300)(h:AV w nb o ns)
  (hdec:EJ ns n i=dec) (hs:(AN ns 0 n.name.toList ns.length).1=s) (ha:(AN ns 1 n.name.toList ns.length).1=a)
  (hwant:(BS n||DM n)=true->∃(k:Nat) (hk:k<ns.length),BZ ns n.depth i=k/\wb4 ns[k]=want) :
  Calls Tryz.prog 48 #[.slice (sA nb o) ns.length cap,nI i,nI sites] w λe w'=>e=.returned (nI (CI n dec s a want sites))/\Below w.heap.size w w':=by
 have c0:=h.c0 i hi;have c1:=h.c1 i hi;have c2:=h.c2 i hi;have c3:=h.c3 i hi;have c4:=h.c4 i hi;have c5:=h.c5 i hi;have hlt:=h.lt;have hi1:(i:Int)<ns.length:=oM;have hl1:(ns.length:Int)<=300:=oM;have hne:¬nb=w.heap.size:=oM;rw[hn]at c0 c1 c2 c3 c4 c5;have HNw:=hid h
 have HDEC:Hi (∀w',Below w.heap.size w w'->Calls Tryz.prog 83 #[.slice (sA nb o) ns.length cap,nI i] w' λe w''=>e=.returned (nI dec)/\Below w'.heap.size w' w''):=λw' hb=>by
  have:=zD4 nb o cap i ns w' hi hl (h.below hb)
  rwa [hn,hdec]at this
 have HDS:Hi (∀w',Below w.heap.size w w'->Calls Tryz.prog 50 #[.slice (sA nb o) ns.length cap,nI 0,.string n.name,nI ns.length] w' λe w''=>e=.returned (.tuple #[nI s,nI (AN ns 0 n.name.toList ns.length).2])/\w''=w'):=λw' hb=>by
  have:=zf8 nb o cap ns.length 0 n.name ns w' (nR_ _) hl (.inl rfl) (h.below hb)
  rwa [hs]at this
 have HDA:Hi (∀w',Below w.heap.size w w'->Calls Tryz.prog 50 #[.slice (sA nb o) ns.length cap,nI 1,.string n.name,nI ns.length] w' λe w''=>e=.returned (.tuple #[nI a,nI (AN ns 1 n.name.toList ns.length).2])/\w''=w'):=λw' hb=>by
  have:=zf8 nb o cap ns.length 1 n.name ns w' (nR_ _) hl (.inr rfl) (h.below hb)
  rwa [ha]at this
 have HW:Hi (∀w',(BS n||DM n)=true->∀{v:Bool},want=v->Below w.heap.size w w'->Calls Tryz.prog 85 #[.slice (sA nb o) ns.length cap,nI i] w' λe w''=>e=.returned (.bool v)/\Below w'.heap.size w' w''):=λw' hx v hv hb=>by
  obtain⟨k,hk,h1,h2⟩:=hwant hx;have:=zS5 nb o cap i k ns w' hi hl (h.below hb) (by rw[hn];exact h1) hk
  rwa [h2,hv]at this
 obtain⟨sn,hsn⟩:=qq ((AN ns 0 n.name.toList ns.length).2);obtain⟨an,han⟩:=qq ((AN ns 1 n.name.toList ns.length).2);rw[<-hsn]at HDS;rw[<-han]at HDA;clear h hn hdec hs ha hwant hsn han;have HB1:Hi (Below w.heap.size w (w.alloc (.cells #[nI n.depth,nI n.kind,.string n.name,nI n.num,nI n.op,nI n.pos] 53))):=(Below.refl _ _).alloc (nR_ _) _;have HC1:Hi _:=NdC.new w n;have HN1:Hi _:=HNw.o.below HB1.o;by_cases k01:n.kind=0\/n.kind=1
 case pos =>
  have HE:Hi (CI n dec s a want sites=dec):=by unfold Hi CI;rw[if_pos k01]
  have key:∀v:Int,n.kind=v->(v=0\/v=1)->True:=λ_ _ _=>trivial;rcases k01 with k0 | k0
  all_goals
   rw[k0]at c1 HB1 HC1 HN1;go_enter Tryz.func48,Tryz.ntmps48;go_wp2_with fail;refine mq (HDEC.o _ HB1.o) λw2 hb=>?_;have HB2:=hid (HB1.o.trans (hb.mono HB1.o.size));clear hb;go_wp2_with fail;go_ret;exact⟨zl2 (by rw[HE.o]),HB2.o⟩
 have b0:(n.kind==0)=false:=by rw[beq_eq_false_iff_ne];exact λe=>k01 (.inl e)
 have b1:(n.kind==1)=false:=by rw[beq_eq_false_iff_ne];exact λe=>k01 (.inr e)
 have d0:¬n.kind=0:=λe=>k01 (.inl e);have d1:¬n.kind=1:=λe=>k01 (.inr e);obtain⟨nm,hnm⟩:∃x,BB n=x:=⟨_,rfl⟩
 have hnm3:nm=0\/nm=1\/nm=2:=by
  rw[<-hnm];unfold BB;repeat' split
  all_goals simp
 go_enter Tryz.func48,Tryz.ntmps48;go_wp2_with fail;obtain⟨w1,hw1⟩:=qq (w.alloc (.cells #[nI n.depth,nI n.kind,.string n.name,nI n.num,nI n.op,nI n.pos] 53));rw[<-hw1]at HB1 HC1 HN1;rw[<-hw1];clear hw1 c0 c1 c2 c3 c4 c5;refine mq (zh1 n hnm _) λw2 hb=>?_;have HC2:Hi _:=HC1.o.below hb;have HN2:Hi _:=HN1.o.below hb;have HB2:=hid (HB1.o.trans (hb.mono HB1.o.size));clear hb;obtain⟨_,c0,c1,c2,c3,c4,c5⟩:=HC2.o;by_cases hz:nm=0
 case' pos =>
  subst hz
  have HF0:Hi (CI n dec s a want sites=if (BS n && !want)||(DM n&&want) then 42 else if BR n&&decide (12<=sites) then 46 else 0):=by unfold Hi CI;rw[if_neg k01,hnm];simp
  clear k01
 case' neg =>
  replace hnm3:=hnm3.resolve_left hz;clear hz;have hpos:0<nm:=oM;go_wp2_with fail;refine mq (HDS.o _ HB2.o) λw9 hw=>?_;subst hw;go_wp2_with fail;refine mq (HDA.o _ HB2.o) λw9 hw=>?_;subst hw;by_cases h41:s<0/\a<0
  ·have HE:Hi (CI n dec s a want sites=41):=by unfold Hi CI;rw[if_neg k01,hnm,if_pos ⟨hpos,h41⟩]
   have e1:decide (s<0)=true:=dT_ h41.1;have e2:decide (a<0)=true:=dT_ h41.2;obtain⟨e3,e4⟩:=h41;go_wp2_with fail;go_ret;exact⟨zl2 (by rw[HE.o]),HB2.o⟩
  cases h42:((nm==1) != decide (0<=s))
  case true =>
   have HE:Hi (CI n dec s a want sites=42):=by unfold Hi CI;rw[if_neg k01,hnm,if_neg (λe=>h41 e.2),if_pos ⟨hpos,h42⟩]
   by_cases e1:s<0
   ·have e2:0<=a:=oM
    have e3:decide (0<=s)=false:=dF_ oM;rw[e3]at h42;have e4:(nm==1)=true:=by simpa using h42
    have e5:nm=1:=by simpa using e4
    subst e5;go_wp2_with fail;go_ret;exact⟨zl2 (by rw[HE.o]),HB2.o⟩
   have e2:0<=s:=oM;have e3:decide (0<=s)=true:=dT_ oM;rw[e3]at h42;have e4:(nm==1)=false:=by simpa using h42
   have e5:nm=2:=by rcases hnm3 with e | e;(rw[e]at e4;simp at e4);exact e
   subst e5;go_wp2_with fail;go_ret;exact⟨zl2 (by rw[HE.o]),HB2.o⟩
  have HF0:Hi (CI n dec s a want sites=if (BS n && !want)||(DM n&&want) then 42 else if BR n&&decide (12<=sites) then 46 else 0):=by unfold Hi CI;rw[if_neg k01,hnm,if_neg (λe=>h41 e.2),if_neg (by simp[h42])]
  clear k01;by_cases e1:s<0
  case' pos =>
   have e2:0<=a:=oM;have e3:decide (0<=s)=false:=dF_ oM;rw[e3]at h42;have e4:(nm==1)=false:=by simpa using h42
   have e5:nm=2:=by rcases hnm3 with e | e;(rw[e]at e4;simp at e4);exact e
   subst e5;clear h41 h42 hnm3
  case' neg =>
   have e2:0<=s:=oM;have e3:decide (0<=s)=true:=dT_ oM;rw[e3]at h42;have e4:(nm==1)=true:=by simpa using h42
   have e5:nm=1:=by simpa using e4
   subst e5;clear h41 h42 hnm3
 all_goals
  cases hM:BS n
  case' true =>
   have hD:DM n=false:=yl9 hM;go_wp2_with fail;clear c0 c1 c2 c3 c4 c5;refine mq (zw5 n hM _) λw2n hb=>?_;have HC2n:Hi _:=HC2.o.below hb;have HN2n:Hi _:=HN2.o.below hb;have HB2n:=hid (HB2.o.trans (hb.mono HB2.o.size));clear hb;obtain⟨_,c0,c1,c2,c3,c4,c5⟩:=HC2n.o;cases hW:want
   case false =>
    have HE:Hi (CI n dec s a want sites=42):=by unfold Hi;rw[HF0.o,hM,hW];rfl
    go_wp2_with fail;clear c0 c1 c2 c3 c4 c5;refine mq (HW.o _ (by simp[hM]) hW HB2n.o) λw2w hb=>?_;have HC2w:Hi _:=HC2n.o.below hb;have HN2w:Hi _:=HN2n.o.below hb;have HB2w:=hid (HB2n.o.trans (hb.mono HB2n.o.size));clear hb;obtain⟨_,c0,c1,c2,c3,c4,c5⟩:=HC2w.o;go_wp2_with fail;go_ret;exact⟨zl2 (by rw[HE.o]),HB2w.o⟩
   case' true =>
    have HF:Hi (CI n dec s a want sites=if BR n&&decide (12<=sites) then 46 else 0):=by unfold Hi;rw[HF0.o,hM,hD,hW];rfl
    go_wp2_with fail;clear c0 c1 c2 c3 c4 c5;refine mq (HW.o _ (by simp[hM]) hW HB2n.o) λw2w hb=>?_;have HC2w:Hi _:=HC2n.o.below hb;have HN2w:Hi _:=HN2n.o.below hb;have HB2w:=hid (HB2n.o.trans (hb.mono HB2n.o.size));clear hb;obtain⟨_,c0,c1,c2,c3,c4,c5⟩:=HC2w.o;go_wp2_with fail;clear c0 c1 c2 c3 c4 c5;refine mq (zy7 n hD _) λw2c hb=>?_;have HC2c:Hi _:=HC2w.o.below hb;have HN2c:Hi _:=HN2w.o.below hb;have HB2c:=hid (HB2w.o.trans (hb.mono HB2w.o.size));clear hb;obtain⟨_,c0,c1,c2,c3,c4,c5⟩:=HC2c.o
  case' false =>
   go_wp2_with fail;clear c0 c1 c2 c3 c4 c5;refine mq (zw5 n hM _) λw2n hb=>?_;have HC2n:Hi _:=HC2.o.below hb;have HN2n:Hi _:=HN2.o.below hb;have HB2n:=hid (HB2.o.trans (hb.mono HB2.o.size));clear hb;obtain⟨_,c0,c1,c2,c3,c4,c5⟩:=HC2n.o;cases hD:DM n
   case' true =>
    go_wp2_with fail;clear c0 c1 c2 c3 c4 c5;refine mq (zy7 n hD _) λw2m hb=>?_;have HC2m:Hi _:=HC2n.o.below hb;have HN2m:Hi _:=HN2n.o.below hb;have HB2m:=hid (HB2n.o.trans (hb.mono HB2n.o.size));clear hb;obtain⟨_,c0,c1,c2,c3,c4,c5⟩:=HC2m.o;cases hW:want
    case true =>
     have HE:Hi (CI n dec s a want sites=42):=by unfold Hi;rw[HF0.o,hM,hD,hW];rfl
     go_wp2_with fail;clear c0 c1 c2 c3 c4 c5;refine mq (HW.o _ (by simp[hD]) hW HB2m.o) λw2v hb=>?_;have HC2v:Hi _:=HC2m.o.below hb;have HN2v:Hi _:=HN2m.o.below hb;have HB2v:=hid (HB2m.o.trans (hb.mono HB2m.o.size));clear hb;obtain⟨_,c0,c1,c2,c3,c4,c5⟩:=HC2v.o;go_wp2_with fail;go_ret;exact⟨zl2 (by rw[HE.o]),HB2v.o⟩
    case' false =>
     have HF:Hi (CI n dec s a want sites=if BR n&&decide (12<=sites) then 46 else 0):=by unfold Hi;rw[HF0.o,hM,hD,hW];rfl
     go_wp2_with fail;clear c0 c1 c2 c3 c4 c5;refine mq (HW.o _ (by simp[hD]) hW HB2m.o) λw2c hb=>?_;have HC2c:Hi _:=HC2m.o.below hb;have HN2c:Hi _:=HN2m.o.below hb;have HB2c:=hid (HB2m.o.trans (hb.mono HB2m.o.size));clear hb;obtain⟨_,c0,c1,c2,c3,c4,c5⟩:=HC2c.o
   rotate_left;have HF:Hi (CI n dec s a want sites=if BR n&&decide (12<=sites) then 46 else 0):=by unfold Hi;rw[HF0.o,hM,hD];rfl
   go_wp2_with fail;clear c0 c1 c2 c3 c4 c5;refine mq (zy7 n hD _) λw2c hb=>?_;have HC2c:Hi _:=HC2n.o.below hb;have HN2c:Hi _:=HN2n.o.below hb;have HB2c:=hid (HB2n.o.trans (hb.mono HB2n.o.size));clear hb;obtain⟨_,c0,c1,c2,c3,c4,c5⟩:=HC2c.o
  all_goals
   cases hS:BR n
   case' false =>
     have HE:Hi (CI n dec s a want sites=0):=by unfold Hi;rw[HF.o,hS];rfl
   case' true =>
    by_cases h12:12<=sites
    case' pos =>
     have h12i:12<=(sites:Int):=oM;have HE:Hi (CI n dec s a want sites=46):=by unfold Hi;rw[HF.o,hS];simp[h12]
    case' neg =>
     have h12i:(sites:Int)<12:=oM;have h12d:decide (12<=(sites:Int))=false:=dF_ oM;have HE:Hi (CI n dec s a want sites=0):=by unfold Hi;rw[HF.o,hS];simp[h12]
   all_goals
    go_wp2_with fail;clear c0 c1 c2 c3 c4 c5;refine mq (zk1 n hS _) λw2cs hb=>?_;have HC2cs:Hi _:=HC2c.o.below hb;have HN2cs:Hi _:=HN2c.o.below hb;have HB2cs:=hid (HB2c.o.trans (hb.mono HB2c.o.size));clear hb;obtain⟨_,c0,c1,c2,c3,c4,c5⟩:=HC2cs.o;go_wp2_with fail;go_ret;exact⟨zl2 (by rw[HE.o]),HB2cs.o⟩
structure Shp(ns:List Nd):Prop where
 fit:∀(i:Nat) (h:i<ns.length),ES ns[i]=true
 dep:∀(i:Nat) (h:i<ns.length),1<=ns[i].depth/\ns[i].depth<=24
 first:∀(h:0<ns.length),ns[0].depth=1
 step:∀(i:Nat) (h:i+1<ns.length),ns[i+1].depth<=ns[i].depth+1
 expr:∀(i:Nat) (h:i<ns.length),10<=ns[i].kind->2<=ns[i].depth
 decl:∀(i j:Nat) (h:j<ns.length) (hij:i<j),ns[j].kind<=1->ns[i].kind<=1
def wf9(ns:List Nd):Int:=match ns.getLast? with | some n=>n.depth | none=>0
def zS6(ns:List Nd)(n:Nd):wf9 (ns++[n])=n.depth:=by unfold wf9;simp
def zY2(ns:List Nd)(h:0<ns.length):wf9 ns=ns[ns.length-1].depth:=by unfold wf9;rw[fA,aJ oM]
def Shp.snoc(h:Shp ns)(O:ES n=true)(K:1<=n.depth/\n.depth<=24)(J:n.depth<=wf9 ns+1)(W:10<=n.kind->2<=n.depth)(L:n.kind<=1->∀x∈ns,x.kind<=1):Shp (ns++[n]):=by
 have d:∀(i:Nat) (D:i<(ns++[n]).length),(∃o:i<ns.length,(ns++[n])[i]=ns[i])\/(i=ns.length/\(ns++[n])[i]=n):=λi D=>by
  by_cases e:i<ns.length
  ·exact .inl ⟨e,bU e⟩
  simp at D;have G:i=ns.length:=oM;subst G;exact .inr ⟨rfl,by simp⟩
 refine⟨λi D=>?_,λi D=>?_,λY=>?_,λi D=>?_,λi D=>?_,λi j X I=>?_⟩
 ·rcases d i D with ⟨o,e⟩ | ⟨_,e⟩<;>rw[e]
  ·exact h.fit i o
  exact O
 ·rcases d i D with ⟨o,e⟩ | ⟨_,e⟩<;>rw[e]
  ·exact h.dep i o
  exact K
 ·rcases d 0 Y with ⟨o,e⟩ | ⟨G,e⟩<;>rw[e]
  ·exact h.first o
  have:ns=[]:=aW G.symm;subst this;have:wf9 []=0:=rfl;omega
 ·rcases d (i+1) D with ⟨o,e⟩ | ⟨G,e⟩<;>rw[e]
  ·rw[bU (show i<ns.length by omega)]
   exact h.step i o
  rw[bU (show i<ns.length by omega)];have:=zY2 ns oM;rw[this]at J;simpa[show ns.length-1=i by omega] using J
 ·rcases d i D with ⟨o,e⟩ | ⟨_,e⟩<;>rw[e]
  ·exact h.expr i o
  exact W
 have D:i<(ns++[n]).length:=oM
 rcases d j X with ⟨o,e⟩ | ⟨G,e⟩<;>rw[e]
 ·rw[bU (show i<ns.length by omega)]
  exact h.decl i j o I
 rw[bU (show i<ns.length by omega)];exact λR=>L R _ (cB _)
def Shp.nil:Shp []:=⟨λi h=>absurd h sI,λi h=>absurd h sI,λh=>absurd h sI,λi h=>absurd h sI,λi h=>absurd h sI,λi j h=>absurd h sI⟩
def yw7{k:Nat}(h:k<16):(BK k=1↔k<=1)/\(BK k=4↔10<=k)/\1<=BK k/\BK k<=4:=by
 have:∀j:Fin 16,(BK j=1↔(j:Nat)<=1)/\(BK j=4↔10<=(j:Nat))/\1<=BK j/\BK j<=4:=by decide
 exact this ⟨k,h⟩
def yw8(k h:Nat):DB k h≠1:=by
 unfold DB;by_cases d:k<16
 ·have:∀j:Fin 16,rH0 j≠1/\rH1 j≠1/\rH2 j≠1:=by decide
  have:=this ⟨k,d⟩
  repeat' split
  all_goals first | decide | exact this.1 | exact this.2.1 | exact this.2.2
 have z:∀l:List Int,l.length<=16->l.getD k 0=0:=λl I=>by rw[bT,aS oM];rfl
 have o:rH0 k=0:=z _ dC;have G:rH1 k=0:=z _ dC;have D:rH2 k=0:=z _ dC;rw[o,G,D]
 repeat' split
 all_goals decide
def zY3{k:Nat}(h:k<=1)(c:Nat):DB k c=0:=by
 have:∀j:Fin 2,rH0 j=0/\rH1 j=0/\rH2 j=0:=by decide
 have:=this ⟨k,oM⟩;unfold DB;rw[aC oM]
 repeat' split
 all_goals first | exact this.1 | exact this.2.1 | exact this.2.2 | rfl
structure wi5(pre:List Nd)(st:List AW)(g:Bool):Prop where
 shp:Shp pre
 len:(st.length:Int)=wf9 pre
 off:g=false->(∀x∈pre,x.kind<=1)/\(st=[]\/∃k c,k<=1/\st=[(k,c)])
def wi5.put{pre:List Nd}{R:List AW}{g:Bool}(h:wi5 pre R g)(hf:ES n=true)(hp:DZ R g n.depth n.kind.toNat=true)(hd:n.depth<=24) :
  wi5 (pre++[n]) (AO R (n.depth-1).toNat n.kind.toNat) (DW g n):=by
 have hk:=zi0 hf;obtain⟨k,L⟩:∃k:Nat,n.kind=k:=⟨n.kind.toNat,oM⟩;have W:k<16:=oM;have Z:=yw7 W;rw[L,aO]at hp ⊢;obtain⟨⟨a1,a2⟩,a3,o⟩:=zj2.1 hp;obtain⟨m,hm⟩:∃m:Nat,n.depth=(m:Int)+1:=⟨(n.depth-1).toNat,oM⟩;have e1:(n.depth-1).toNat=m:=oM;rw[e1]at a3 o ⊢;have D:m<=R.length:=oM
 have K:((AO R m k).length:Int)=n.depth:=by
  unfold AO
  split
  ·simp;omega
  simp;omega
 have J:10<=n.kind->2<=n.depth:=λhx=>by
  by_cases d:m=0
  ·exfalso
   rw[d]at o;unfold DA at o;rw[aG rfl,(Z.2.1.2 (by omega):BK k=4)]at o;simp at o
  omega
 have I:n.kind<=1->m=0/\g=false:=λhx=>by
  have h1:BK k=1:=Z.1.2 oM;unfold DA at o;rw[h1]at o;by_cases d:m=0
  ·rw[aG d]at o
   exact⟨d,by simpa using o⟩
  rw[aC d]at o;exact absurd (by simpa using o) (yw8 _ _)
 refine⟨h.shp.snoc hf oM (oH h.len) J (λhx=>(h.off (I hx).2).1),by rw[K,zS6],λG=>?_⟩
 have O:g=false:=by
  unfold DW at G
  split at G
  ·simp at G;exact G.1
  exact G
 obtain⟨o1,X⟩:=h.off O
 have d:m=0:=by
  by_cases d:m=0
  ·exact d
  exfalso;rcases X with X | ⟨k',c,hk',X⟩
  ·rw[X]at D;simp at D;omega
  rw[X]at D o;simp at D;have Y:m=1:=oM;subst Y;unfold DA at o;simp[zY3 hk']at o;omega
 have Y:n.kind<=1:=by
  unfold DW at G;rw[aG oM,L,aO,O]at G;unfold DA at o;rw[aG d]at o;have h2:BK k≠2:=by simpa using G
  have h1:BK k=1:=by
   rcases cR _ _ ▸ o with h | h
   ·exact absurd (by simpa using h) h2
   simp at h;exact h.1
  have:=Z.1.1 h1;omega
 refine⟨λx hx=>?_,.inr ⟨k,0,oM,?_⟩⟩
 ·rcases bA.1 hx with hx | hx
  ·exact o1 x hx
  simp at hx;rw[hx];exact Y
 unfold AO;rw[aG d]
def zY4:∀(ns:List Nd) (i:Nat) (o:List AW) (g:Bool) (d:List Nd),wi5 d o g->(FD ns i o g).1=0->Shp (d++ns)
 | [],_,_,_,d,h,_=>by rw[bD];exact h.shp
 | n::ns,i,o,g,d,h,hr=>by
  rw[FD]at hr;by_cases G:ES n=false
  ·rw[aG G]at hr;simp at hr
  rw[aC G]at hr;by_cases D:DZ o g n.depth n.kind.toNat=false
  ·rw[aG D]at hr;simp at hr
  rw[aC D]at hr;by_cases I:24<n.depth
  ·rw[aG I]at hr;simp at hr
  rw[aC I]at hr;have:=zY4 ns (i+1) _ _ (d++[n]) (h.put (by simpa using G) (by simpa using D) oM) hr
  rwa [bN]at this
def zP0(h:(BL ns).1=0):Shp ns:=by
 unfold BL at h
 split at h
 ·simp at h
 exact zY4 ns 0 [] false [] ⟨Shp.nil,rfl,λ_=>⟨λx d=>absurd d sI,.inl rfl⟩⟩ h
end Go.Proofs.YthoegkcpmgalbaaGreatDoor
