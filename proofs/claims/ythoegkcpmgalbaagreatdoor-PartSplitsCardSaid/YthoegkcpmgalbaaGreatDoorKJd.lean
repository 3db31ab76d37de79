import Derived.DeepKeys4
import Derived.Test.YthoegkcpmgalbaaGreatDoorKIh
import Derived.Test.YthoegkcpmgalbaaGreatDoorKSf0
set_option maxHeartbeats 8000000
set_option linter.all false
set_option maxRecDepth 100000
namespace Go.Proofs.YthoegkcpmgalbaaGreatDoor
open Go.RowKit Go.Maps
variable{N b:Nat}{c:Nat->Int}{l:Ls}{ls:List Lk}{ns:List Nd}{ts:List Int}{w:World}{x y:Int}
def SpG(w:World)(r:Int)(N:Nat)(R:List Int×List Vx×List Lk)(e:Ending)(w':World):Prop :=
 (r≠0/\e=.returned (.tuple #[.agg #[sZ,sZ,sZ],nI r])/\Ok w w')\/(r=0/\wn2 w N R e w')
def FG(ls:List Lk)(x y:Int):Option Int:=ls.foldl (λo l=>if (l.1:Int)=x/\(l.2.2:Int)=y then some (l.2.1:Int) else o) none
def zt9(ls:List Lk)(l:Lk)(x y:Int):FG (ls++[l]) x y=if (l.1:Int)=x/\(l.2.2:Int)=y then some (l.2.1:Int) else FG ls x y:=by unfold FG;rw[List.foldl_append];rfl
def ye4{α:Type}{p:List α->Prop}(d:p [])(o:∀l x,p l->p (l++[x]))(l:List α):p l:=by
 have:∀m:List α,p m.reverse:=λm=>by
  induction m with
  | nil=>exact d
  | cons a t ih=>rw[List.reverse_cons];exact o _ _ ih
 have h:=this l.reverse
 rwa [List.reverse_reverse]at h
def zx7{t:Int}(ls:List Lk):FG ls x y=some t->∃l∈ls,(l.1:Int)=x/\(l.2.2:Int)=y/\(l.2.1:Int)=t:=by
 refine ye4 (p:=λls=>FG ls x y=some t->∃l∈ls,(l.1:Int)=x/\(l.2.2:Int)=y/\(l.2.1:Int)=t) ?_ ?_ ls
 ·intro h;cases h
 intro ls l o h;rw[zt9]at h;by_cases c:(l.1:Int)=x/\(l.2.2:Int)=y
 ·rw[aG c]at h
  injection h with h
  exact⟨l,by simp,c.1,c.2,h⟩
 rw[aC c]at h;obtain⟨m,d,r⟩:=o h;exact⟨m,cG _ d,r⟩
def zV1(ls:List Lk):FG ls x y=none->∀l∈ls,¬((l.1:Int)=x/\(l.2.2:Int)=y):=by
 refine ye4 (p:=λls=>FG ls x y=none->∀l∈ls,¬((l.1:Int)=x/\(l.2.2:Int)=y)) ?_ ?_ ls
 ·intro _ l d;cases d
 intro ls l d h;rw[zt9]at h;by_cases c:(l.1:Int)=x/\(l.2.2:Int)=y
 ·rw[aG c]at h;cases h
 rw[aC c]at h;intro m hm;rcases bA.1 hm with hm | hm
 ·exact d h m hm
 rw[aT.1 hm];exact c
def zV2{p:Pl}{D:List Vx}(h:FI p D.length D ls)(v:Nat)(k:Int):FG ls (v:Int) k=(goP ls v [k]).map λu:Nat=>(u:Int):=by
 rw[yy1]
 cases o:FG ls (v:Int) k with
 | some t =>
  obtain⟨l,d,L,K,J⟩:=zx7 ls o;have I:l.1=v:=oM;have G:k.toNat=l.2.2:=oM;rw[aG oM,G,<-I,h.next_some d,<-J];rfl
 | none =>
  have G:=zV1 ls o;by_cases c:0<=k
  ·rw[aG c]
   have:wb5 ls v k.toNat=none:=by unfold wb5;rw[Option.map_eq_none_iff,fG];intro l d;have:=G l d;simp only[bV];omega
   rw[this];rfl
  rw[aC c];rfl
def yp9:Tryz.prog.keyType 121=true:=by kernel_rfl
def zp7:Tryz.prog.cellsOf 121=2/\Tryz.prog.cellsOf 3=1:=by refine⟨?_,?_⟩<;>kernel_rfl
def zQ6:Keyed Tryz.prog 121:=Keyed.of_law (deep_law_laid (by kernel_rfl) (m:=2) oM (cO (by kernel_rfl)) (by kernel_rfl) (by rw[Tryz.underlying121]))
def zQ7{a b:Int}(G:(Lit.int .i64 a).wf=true)(d:(Lit.int .i64 b).wf=true):∃D,keyOf Tryz.prog 121 (.agg #[.int .i64 a,.int .i64 b])=some D:=by
 obtain⟨m,o⟩:∃m,Tryz.prog.types.size=m+1:=⟨_,(by kernel_rfl:Tryz.prog.types.size=(Tryz.prog.types.size-1)+1)⟩
 have I:Tryz.prog.keyLits (m+1+1) 121 [.int .i64 a,.int .i64 b]=some [.int .i64 a,.int .i64 b]:=by simp[Program.keyLits,Tryz.underlying121,Tryz.underlying3,zp7.1,zp7.2,G,d]
 refine⟨.string (keyBytes [.int .i64 a,.int .i64 b]),?_⟩;unfold keyOf;rw[Tryz.underlying121];simp only[yp9,Value.formed,Tryz.underlying121,zp7.1,o,Value.cells];simp[I]
def EW(w:World)(b N:Nat)(ls:List Lk):Prop:=∃f,CE w 121 b N f/\∀x y:Int,f (.agg #[nI x,nI y])=FG ls x y
def EW.ok{w':World}(h:EW w b N ls)(o:Ok w w'):EW w' b N ls:=by obtain⟨f,d,D⟩:=h;exact⟨f,d.ok o,D⟩
def EW.look(h:EW w b N ls)(o:(Lit.int .i64 x).wf=true)(G:(Lit.int .i64 y).wf=true) :
  (Instr.lookup 118 (.map (some b)) (.agg #[nI x,nI y]) true).run Tryz.prog w=.ok (.tuple #[nI ((FG ls x y).getD 0),.bool (FG ls x y).isSome]) w:=by
 obtain⟨f,D,d⟩:=h;obtain⟨J,I⟩:=zQ7 o G;rw[<-d];exact D.look_ok zQ6 Tryz.underlying118 I
def EW.put(h:EW w b N ls)(l:Lk)(R:l.1<=1000000)(O:l.2.2<=1000000)(X:l.2.1<=1000000)(L:N<=2000000) :
  ∃w',(Instr.mapUpdate 118 (.map (some b)) (.agg #[nI (l.1:Nat),nI (l.2.2:Nat)]) (nI (l.2.1:Nat))).run Tryz.prog w=.ok () w'/\EW w' b (N+1) (ls++[l])/\w.grownBy w' (some b):=by
 obtain⟨f,I,D⟩:=h;obtain⟨W,K⟩:=zQ7 (a:=(l.1:Int)) (b:=(l.2.2:Int)) (gwf oM oM) (gwf oM oM)
 classical
 obtain⟨w',o,J,d⟩:=I.put (f':=λu=>if u=.agg #[nI (l.1:Nat),nI (l.2.2:Nat)] then some (l.2.1:Int) else f u) zQ6 Tryz.underlying118 K (y:=(l.2.1:Int)) oM oM (by unfold maxLen;omega) (by simp) (λu G=>by simp[G]);refine⟨w',o,⟨_,J,λx y=>?_⟩,d⟩;rw[zt9,<-D];by_cases c:(l.1:Int)=x/\(l.2.2:Int)=y
 ·rw[aG c,c.1,c.2];simp
 rw[aC c,aC];intro e
 injection e with e
 simp only[Array.mk.injEq,cJ,Value.int.injEq,gI,gK]at e;exact c ⟨e.1.symm,e.2.symm⟩
def lwG(ns:List Nd)(l:Ls):Option (Nat×Nat×List Ed):=if DG ns l=true then some (ptF ns ns.length+1,ptF ns ns.length,elF ns) else none
def yv6(v:Nat->Value)(ns:List Nd)(l:Ls)(w:World)(I:BE w)(L:EK w)(h:BV w (v 0) (v 1) (v 2) (v 3) (v 4) (v 5) ns l) :
  Calls Tryz.prog 36 #[.agg #[v 0,v 1,v 2,v 3,v 4,v 5]] w λe w'=>we2 w (lwG ns l) e w':=by
 unfold lwG;by_cases D:DG ns l=true
 ·rw[aG D]
  refine(yu8 _ _ _ _ _ _ ns l w I L h D).mono ?_;rintro e w' ⟨u,W,rfl,_,K,d,G⟩;obtain⟨R,J,rfl⟩:=za0 d;refine⟨⟨u,R,J,rfl,λi O=>?_,za7 d (zL_ _)⟩,G⟩;obtain⟨o,c,e⟩:=za0 (K i O);exact⟨_,_,_,e⟩
 rw[aC D];refine mq (yk8 _ _ _ _ _ _ ns l w I h (by simpa using D)) λw' G=>?_;exact⟨rfl,G⟩
structure we9(w:World):Prop where
 rules:BE w
 steps:EK w
 tab:Lib.TabBelow Tryz.prog w.heap.size w "internal/strconv.uint64pow10" .u64 Lib.pow10Tab
 errC:∃et eu,w.cell? ⟨1,0,none⟩=some (.iface et eu)
 errT:w.cell? ⟨0,0,none⟩=some (.iface 197 (.agg #[.pointer (some ⟨8,103,none⟩)]))
def we9.ok{w':World}(h:we9 w)(d:Ok w w'):we9 w':=by obtain⟨G,J,o⟩:=h.errC;exact⟨h.rules.below d,h.steps.below d,λI D=>h.tab I (Below.trans d (D.mono d.le)),⟨G,J,d.cell (p:=⟨1,0,none⟩) (zi9 o) o⟩,d.cell (p:=⟨0,0,none⟩) (zi9 h.errT) h.errT⟩
def CM(ns:List Nd)(l:Ls)(c:Nat->Int)(ts:List Int):Int:=if DG ns l=true then AK c ts else 2
def ptN(ns:List Nd):Nat:=ptF ns ns.length+1
def spR(ns:List Nd)(c:Nat->Int):List Int×List Vx×List Lk:=(FW (c 2).toNat (c 0) (c 1) (elF ns) (ptN ns*(c 2).toNat+1) (ptN ns+1) []).getD ([],[],[])
def zm1(h:CM ns l c ts=0):DG ns l=true/\AK c ts=0:=by
 unfold CM at h;by_cases d:DG ns l=true
 ·rw[aG d]at h;exact⟨d,h⟩
 rw[aC d]at h;cases h
def zp8(h:AK c ts=0):0<=c 0/\c 0<=3/\0<=c 1/\c 1<=3/\1<=c 2/\c 2<=6:=by have d:=zo0 h (k:=0) dC;have o:=zo0 h (k:=1) dC;have D:=zo0 h (k:=2) dC;simp only[CZ,bM,bV]at d o D;omega
structure wv4(ns:List Nd):Prop where
 tree:FX ns
 len:ns.length<=300
 pts:ptN ns<=301
 els:(elF ns).length<=600
 frm:∀e∈elF ns,0<=e.from'/\e.from'<(ptN ns:Int)
 wit:FO (ptN ns) (elF ns)
def wi1(hg:DG ns l=true):wv4 ns:=by
 have D:=zv7 hg;have d:=zN8 (zq4 D);have I:=(zj1 ns D).2;have K:=zq9 ns ns.length;have J:=yz9 d;refine⟨d,I,by unfold ptN;omega,oM,λe o=>?_,by unfold ptN;omega,λe o=>?_⟩
 ·unfold ptN
  rcases(zC9 d).pl e o with ⟨_,p,_,_,_,_,G⟩ | ⟨p,_,_,_,_,_,G⟩
  ·have:=zC8 ns p;omega
  have:=zC8 ns p;omega
 unfold ptN;obtain⟨t,L,G⟩:=(zC9 d).to e o;omega
def zK9(h:CM ns l c ts=0):FW (c 2).toNat (c 0) (c 1) (elF ns) (ptN ns*(c 2).toNat+1) (ptN ns+1) []=some (spR ns c):=by obtain⟨d,o⟩:=zm1 h;have G:=zp8 o;obtain⟨r,e⟩:=zE8 (H:=c 0) (U:=c 1) (f:=ptN ns*(c 2).toNat+1) (show 0<(c 2).toNat by omega) (wi1 d).wit (ptN ns+1) [] List.nodup_nil (λn D=>by cases D) sI;unfold spR;rw[e];rfl
def ye8(h:CM ns l c ts=0):FI (DR (c 2).toNat (c 0) (c 1) (elF ns) (spR ns c).1) (spR ns c).2.1.length (spR ns c).2.1 (spR ns c).2.2:=by obtain⟨d,o⟩:=zm1 h;have G:=zp8 o;exact(zs8 (show 0<(c 2).toNat by omega) (wi1 d).wit (hO _) (ptN ns+1) [] (spR ns c) List.nodup_nil (λn D=>by cases D) (zK9 h)).2.2
def wr6(w:World)(r:Int)(N:Nat)(R:List Int×List Vx×List Lk)(e:Ending)(w':World):Prop :=
 (r≠0/\e=.returned (.tuple #[.agg #[sZ,sZ,sZ],nI r])/\Ok w w')\/(r=0/\wl5 w N R e w')
def yK3(v:Nat->Value)(c:Nat->Int)(ts:List Int)(tz:Option Addr)(tc:Nat)(ns:List Nd)(l:Ls)(w:World)(L:we9 w)(h:BV w (v 0) (v 1) (v 2) (v 3) (v 4) (v 5) ns l)(a1:SL w 1 (.slice tz ts.length tc) ts.length (ilL ts)) :
  Calls Tryz.prog 8 #[.agg #[v 0,v 1,v 2,v 3,v 4,v 5],.agg #[nI (c 0),nI (c 1),nI (c 2),nI (c 3),nI (c 4),nI (c 5),.slice tz ts.length tc,nI (c 7),nI (c 8)]] w λe w'=>wr6 w (CM ns l c ts) (ptN ns) (spR ns c) e w':=by
 have o:∀Y,Ok w Y->Calls Tryz.prog 36 #[.agg #[v 0,v 1,v 2,v 3,v 4,v 5]] Y λe w'=>we2 Y (lwG ns l) e w':=λY d=>yv6 v ns l Y (L.ok d).rules (L.ok d).steps (h.below d)
 have I:∀Y,Ok w Y->Calls Tryz.prog 38 #[.agg #[nI (c 0),nI (c 1),nI (c 2),nI (c 3),nI (c 4),nI (c 5),.slice tz ts.length tc,nI (c 7),nI (c 8)]] Y λe w'=>wp4 Y (AK c ts) e w':=λY d=>by obtain⟨G,D,R⟩:=(L.ok d).errC;exact zF8 c ts tz tc Y (a1.below d) G D R
 by_cases K:DG ns l=true
 ·have X:lwG ns l=some (ptN ns,ptF ns ns.length,elF ns):=by unfold lwG ptN;rw[aG K]
  rw[X]at o;by_cases J:AK c ts=0
  ·have G:CM ns l c ts=0:=by unfold CM;rw[aG K];exact J
   have hc:=zp8 J;have O:=wi1 K;rw[J]at I;refine(ye3 v c tz ts.length tc (ptN ns) (ptF ns ns.length) (elF ns) (spR ns c) w (λY d=>zG2 v c ts tz tc _ _ _ Y (λZ D=>o Z (d.step D)) (λZ D=>I Z (d.step D))) (λY a d h6 hs hx R=>?_)).mono λe w' W=>.inr ⟨G,W⟩;have e2:c 2=((c 2).toNat:Int):=oM;have:=yc8 a (ptN ns) (c 2).toNat (c 0) (c 1) (c 3) (c 4) (c 5) (c 7) (c 8) tz ts.length tc (elF ns) (spR ns c) Y h6 hs hx R ⟨oH O.pts,oM,oH O.els⟩ O.frm O.wit oM ⟨oM,oM⟩ (zK9 G) (L.ok d).tab;rw[<-e2]at this;exact this
  have G:CM ns l c ts=AK c ts:=by unfold CM;rw[aG K]
  refine mq (zx6 v c tz ts.length tc (AK c ts) J w (λY d=>zV0 v c ts tz tc _ _ _ (AK c ts) J Y (L.ok d).errT (λZ D=>o Z (d.step D)) (λZ D=>I Z (d.step D)))) λw' O=>?_;exact .inl ⟨by rw[G];exact J,by rw[G],O⟩
 have X:lwG ns l=none:=by unfold lwG;rw[aC K]
 have G:CM ns l c ts=2:=by unfold CM;rw[aC K]
 rw[X]at o;refine mq (zx6 v c tz ts.length tc 2 dC w (λY d=>(zK6 v c ts tz tc 0 Y (λZ D=>o Z (d.step D))).mono λe w' W=>W)) λw' O=>?_;exact .inl ⟨by rw[G];decide,by rw[G],O⟩
def zu0(v:Nat->Value)(c:Nat->Int)(ts:List Int)(tz:Option Addr)(tc:Nat)(ns:List Nd)(l:Ls)(w:World)(o:we9 w)(h:BV w (v 0) (v 1) (v 2) (v 3) (v 4) (v 5) ns l)(d:SL w 1 (.slice tz ts.length tc) ts.length (ilL ts)) :
  Calls Tryz.prog 8 #[.agg #[v 0,v 1,v 2,v 3,v 4,v 5],.agg #[nI (c 0),nI (c 1),nI (c 2),nI (c 3),nI (c 4),nI (c 5),.slice tz ts.length tc,nI (c 7),nI (c 8)]] w λe w'=>SpG w (CM ns l c ts) (ptN ns) (spR ns c) e w' :=
 (yK3 v c ts tz tc ns l w o h d).mono λe w' h=>h.imp id λh=>⟨h.1,h.2.ps⟩
def LkB(ls:List Lk):Prop:=ls.length<=2000000/\∀l∈ls,l.1<=1000000/\l.2.1<=1000000/\l.2.2<=1000000
def zK7(n:Int)(w:World):(Instr.makeMap 118 (some (nI n))).run Tryz.prog w=.ok (.map (some w.heap.size)) (w.alloc (.map #[] 0)):=by simp[Instr.makeMap,run_underlying Tryz.underlying118,asInt,asIntOf,Result.andThen]
def EW.made(w:World):EW (w.alloc (.map #[] 0)) w.heap.size 0 []:=⟨_,CE.made w _,λ_ _=>rfl⟩
def zm0{α:Type}{l:List α}{k:Nat}{x:α}(h:l[k]?=some x):l.take (k+1)=l.take k++[x]:=by rw[dH,h];rfl
def ye5(B:Nat)(lv:Value)(ls:List Lk)(w:World)(h:w.ownsRow B 78 3 lv ls.length (lkL ls))(d:LkB ls) :
  Calls Tryz.prog 42 #[lv] w λe w'=>∃b:Nat,e=.returned (.map (some b))/\EW w' b ls.length ls/\Ok w w':=by
 have HO:=hid h;have HL:=hid d;obtain⟨ao,cap,rfl⟩:=za0 h;obtain⟨N,D⟩:=qq (ls.length);have K:Hi (N=ls.length/\N<=2000000):=⟨D,by rw[D];exact d.1⟩;rw[<-D]at HO ⊢;have a3:¬(N:Int)<0:=oM;clear h d D;have I:=zK7 (N:Int) w;go_enter Tryz.func42,Tryz.ntmps42;go_wp2_with fail;obtain⟨W,G⟩:=qq (w.alloc (.map #[] 0));obtain⟨b,D⟩:=qq (w.heap.size);rw[<-G,<-D];have Y:Hi (Ok w W):=by rw[G];exact(Ok.refl w).alloc _
 have O:Hi (EW W b 0 []):=by rw[G,D];exact EW.made w
 have HB:=hid D.symm;clear G D I;go_loopw [11] (λi wr=>∃k:Nat,i=nI (k:Nat)/\k<=N/\Hi (EW wr b k (ls.take k))/\Hi (Ok w wr)) (λi _=>N-(intOf i).toNat)
 case atStart=>exact⟨0,rfl,zL_ _,O,Y⟩
 obtain⟨k,rfl,hk,HT,Z⟩:=hrel;by_cases J:k<N
 ·have I:(k:Int)<(N:Int):=za5 J
  have a4:IntKind.i64.wrap ((k:Int)+1)=((k+1:Nat):Int):=zb3 (oH K.o);obtain⟨l,d⟩:∃l,ls[k]?=some l:=⟨_,gG_ (oH K.o)⟩;obtain⟨x,y,z⟩:=l;have L:=hid (zm0 d);have D:Hi (x<=1000000/\y<=1000000/\z<=1000000):=HL.o.2 _ (mG_ d);have G:=za1 HO.o Z.o;obtain⟨g,cp,e1,_⟩:=G.form oM
  injection e1 with e1 _ _
  subst e1;obtain⟨q0,q1,q2⟩:=zA3 d;have c0:=G.cells (g:=g) rfl _ _ q0;have c1:=G.cells (g:=g) rfl _ _ q1;have c2:=G.cells (g:=g) rfl _ _ q2;rw[zb7,aL]at c0 c1 c2;have a2:=(G.lt g rfl).2;obtain⟨w2,a1,R,X⟩:=(HT.o.ok ((Ok.refl wr).alloc (Obj.cells #[nI (x:Nat),nI (y:Nat),nI (z:Nat)] 78))).put (x,y,z) D.o.1 D.o.2.2 D.o.2.1 (oH K.o);clear G d q0 q1 q2;go_wp2_with fail;refine⟨⟨k+1,rfl,J,by rw[L.o];exact R,(Z.o.alloc _).grown X (λG e=>by injection e with e;rw[<-e];exact Nat.le_of_eq HB.o)⟩,?_⟩;simp only[intOf,aO];omega
 have I:¬(k:Int)<(N:Int):=oM;have D:k=ls.length:=oH K.o
 have G:Hi (EW wr b ls.length ls):=by have h:=HT.o;rw[D,cH]at h;exact h
 have L:Hi (N=ls.length):=K.o.1;clear D;go_wp2_with fail;go_ret;exact⟨b,rfl,by rw[L.o];exact G.o,Z.o⟩
def flV(r:Int)(ls:List Lk)(path:List Int):Int×Int:=if r=0 then (match goP ls 0 path with | some u=>((u:Int),0) | none=>(0,1)) else (0,r)
def zQ8{u:Nat}{d:List Int}{k:Nat}(h:d[k]?=some y):goP ls u (d.drop k)=(goP ls u [y]).bind λt=>goP ls t (d.drop (k+1)):=by obtain⟨o,e⟩:=aE.1 h;rw[aP o,e];exact yb5 ls u [y] _
def zV3(v:Nat->Value)(c:Nat->Int)(tz:Option Addr)(D tc:Nat)(K:Value)(r:Int)(N:Nat)(R:List Int×List Vx×List Lk)(w:World)(d:r≠0)
  (G:∀Y,Ok w Y->Calls Tryz.prog 8 #[.agg #[v 0,v 1,v 2,v 3,v 4,v 5],.agg #[nI (c 0),nI (c 1),nI (c 2),nI (c 3),nI (c 4),nI (c 5),.slice tz D tc,nI (c 7),nI (c 8)]] Y λe w'=>SpG Y r N R e w') :
  Calls Tryz.prog 23 #[.agg #[v 0,v 1,v 2,v 3,v 4,v 5],.agg #[nI (c 0),nI (c 1),nI (c 2),nI (c 3),nI (c 4),nI (c 5),.slice tz D tc,nI (c 7),nI (c 8)],K] w λe w'=>e=.returned (.tuple #[nI 0,nI r])/\Ok w w':=by
 have L:=hid G;have J:=hid d;have O:(r != 0)=true:=dO.2 d;clear G d;go_enter Tryz.func23,Tryz.ntmps23;go_wp2_with fail;refine(L.o _ (((Ok.refl w).alloc _).alloc _)).mono ?_;rintro e d G;obtain⟨rfl,I⟩:e=.returned (.tuple #[.agg #[sZ,sZ,sZ],nI r])/\Ok _ d:=G.elim (λh=>h.2) (λh=>absurd h.1 J.o);have W:Hi (Ok w d):=(((Ok.refl w).alloc _).alloc _).step I;clear G I;go_wp2_with fail;(try simp only[Exit.inBlock,Exit.then]);refine bodyPost_ret (results_tmp2 rfl _ _ _) rfl ?_;exact⟨rfl,W.o.alloc _⟩
def ye6(v:Nat->Value)(c:Nat->Int)(tz:Option Addr)(tn tc:Nat)(pv:Value)(d:List Int)(N:Nat)(R:List Int×List Vx×List Lk)(p:Pl)(w:World)(J:FI p R.2.1.length R.2.1 R.2.2)(K:LkB R.2.2)
  (hp:SL w 1 pv d.length (ilL d)) (I:d.length<=4000000000000000000) (D:∀y∈d,(Lit.int .i64 y).wf=true)
  (L:∀Y,Ok w Y->Calls Tryz.prog 8 #[.agg #[v 0,v 1,v 2,v 3,v 4,v 5],.agg #[nI (c 0),nI (c 1),nI (c 2),nI (c 3),nI (c 4),nI (c 5),.slice tz tn tc,nI (c 7),nI (c 8)]] Y λe w'=>SpG Y 0 N R e w') :
  Calls Tryz.prog 23 #[.agg #[v 0,v 1,v 2,v 3,v 4,v 5],.agg #[nI (c 0),nI (c 1),nI (c 2),nI (c 3),nI (c 4),nI (c 5),.slice tz tn tc,nI (c 7),nI (c 8)],pv] w λe w'=>e=.returned (.tuple #[nI (flV 0 R.2.2 d).1,nI (flV 0 R.2.2 d).2])/\Ok w w':=by
 have HS:=hid L;have HF:=hid J;have HL:=hid K;have HP:=hid hp;have a5:=hid D;obtain⟨_,_,po,pc,rfl,_⟩:=hp;obtain⟨n,G⟩:=qq (d.length);have HN:Hi (n=d.length/\n<=4000000000000000000):=⟨G,oM⟩;rw[<-G]at HP ⊢;clear J K I D L G;go_enter Tryz.func23,Tryz.ntmps23;go_wp2_with fail;refine(HS.o _ (((Ok.refl w).alloc _).alloc _)).mono ?_;rintro e w1 W;have a1:wn2 _ N R e w1:=W.elim (λh=>absurd rfl h.1) (λh=>h.2);obtain⟨vv,lv,mv,rfl,⟨tl,_,O,_⟩,G,L,I⟩:=a1;have a4:Hi (Ok w w1):=(((Ok.refl w).alloc _).alloc _).step I;have X:Hi (w1.ownsRow 0 78 3 lv R.2.2.length (lkL R.2.2)):=za7 G (zL_ _);obtain⟨vo,vc,rfl⟩:=za0 O;obtain⟨lo,lc,rfl⟩:=za0 G;obtain⟨mo,mc,rfl⟩:=za0 L;obtain⟨vn,K⟩:=qq (R.2.1.length);obtain⟨ln,D⟩:=qq (R.2.2.length);obtain⟨mn,J⟩:=qq ((mgL N R.1).length);rw[<-K,<-D,<-J];have a3:Hi (ln=R.2.2.length):=D;rw[<-D]at X;clear W I G O L K D J;go_wp2_with fail;refine(ye5 0 _ R.2.2 _ (by rw[<-a3.o];exact za1 X.o ((Ok.refl _).alloc _)) HL.o).mono ?_;rintro e w2 ⟨b,rfl,G,D⟩;have K:Hi (Ok w w2):=(a4.o.alloc _).step D;have HT:=hid G;clear G D;go_wp2_with fail;go_loopw [11,30] (λt i wr=>∃(k u:Nat),i=nI (k:Nat)/\t=nI (u:Nat)/\k<=n/\Hi (goP R.2.2 0 d=goP R.2.2 u (d.drop k))/\Hi (u<=1000000)/\Hi (Ok w2 wr)) (λ_ i _=>n-(intOf i).toNat)
 case atStart=>exact⟨0,0,rfl,rfl,zL_ _,rfl,zL_ _,Ok.refl _⟩
 obtain⟨k,u,rfl,rfl,hk,L,HU,HK⟩:=hrel;by_cases Z:k<n
 ·have W:(k:Int)<(n:Int):=za5 Z
  have a8:IntKind.i64.wrap ((k:Int)+1)=((k+1:Nat):Int):=by rw[IntKind.wrap_i64];have:=HN.o;omega
  obtain⟨y,I⟩:∃y,d[k]?=some y:=⟨_,gG_ (oH HN.o)⟩;have HY:=hid I;obtain⟨_,_,a6,a7,e1,O⟩:=HP.o.below (K.o.step HK.o)
  injection e1 with e1 _ e3
  subst e1;obtain⟨pb,pf,e4,a9,D⟩:=O.resolve_left oM;subst e4;have c0:=D k (nI y) (zk6 I);have J:=(HT.o.ok HK.o).look (x:=(u:Int)) (y:=y) (gwf (oH HU.o) (oH HU.o)) (a5.o y (mG_ I));have G:FG R.2.2 (u:Int) y=(goP R.2.2 u [y]).map λu:Nat=>(u:Int):=zV2 HF.o u y;clear D O I e3
  cases O:goP R.2.2 u [y] with
  | some t =>
   rw[O]at G;have D:FG R.2.2 (u:Int) y=some (t:Int):=G;rw[D]at J
   have a2:Hi (t<=1000000):=by obtain⟨l,I,_,_,h3⟩:=zx7 _ D;have:=(HL.o.2 l I).2.1;unfold Hi;omega
   have I:Hi (goP R.2.2 0 d=goP R.2.2 t (d.drop (k+1))):=by unfold Hi;rw[L.o,zQ8 HY.o,O];rfl
   simp only[Option.getD_some,Option.isSome_some]at J;clear G D O L;go_wp2_with fail;refine⟨⟨k+1,t,rfl,rfl,Z,I,a2,HK⟩,?_⟩;simp only[intOf,aO];omega
  | none =>
   rw[O]at G;have D:FG R.2.2 (u:Int) y=none:=G;rw[D]at J;have I:Hi (flV 0 R.2.2 d=(0,1)):=by unfold Hi flV;rw[aG rfl,L.o,zQ8 HY.o,O];rfl
   simp only[Option.getD_none,Option.isSome_none]at J;clear G D O L;go_wp2_with fail;(try simp only[Exit.inBlock,Exit.then]);refine bodyPost_ret (results_tmp2 rfl _ _ _) rfl ?_;rw[I.o];exact⟨rfl,K.o.step HK.o⟩
 have W:¬(k:Int)<(n:Int):=oM;have I:Hi (flV 0 R.2.2 d=((u:Int),0)):=by unfold Hi flV;rw[aG rfl,L.o,aU (oH HN.o)];rfl
 clear L;go_wp2_with fail;(try simp only[Exit.inBlock,Exit.then]);refine bodyPost_ret (results_tmp2 rfl _ _ _) rfl ?_;rw[I.o];exact⟨rfl,K.o.step HK.o⟩
end Go.Proofs.YthoegkcpmgalbaaGreatDoor
