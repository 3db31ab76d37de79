import Derived.Test.YthoegkcpmgalbaaGreatDoorKCstk
set_option linter.all false
set_option maxRecDepth 100000
namespace Go.Proofs.YthoegkcpmgalbaaGreatDoor
open Go.RowKit
variable{B cap i n:Nat}{S:List AW}{g:Bool}{k:Int}{ns:List Nd}{v:Value}{w:World}
def BF(k:Nat):Bool:=decide (0<AS k)||k==9
def CB(S:List AW):List AW:=S.set (S.length-1) ((S.getD (S.length-1) (0,0)).1,(S.getD (S.length-1) (0,0)).2+1)
def wh7(k:Nat):Bool:=k==0||k==1
def BT:List Nd->Nat->List AW->Bool->Int×Int
 | [],i,S,_=>if AX S then (33,i) else (0,0)
 | n::ns,i,S,g =>
  if AX (S.drop (n.depth-1).toNat) then (33,i) else
  let S1:=S.take (n.depth-1).toNat
  if n.depth≠S1.length+1\/CL n.kind n.name.toList n.num n.op=false then (33,i) else
  if S1=[] then
   if (wh7 n.kind.toNat&&g)||(!wh7 n.kind.toNat && !wc8 n.kind) then (33,i) else if 24<n.depth then (31,i)
   else BT ns (i+1) (if BF n.kind.toNat then S1++[(n.kind.toNat,0)] else S1) (g || !wh7 n.kind.toNat)
  else
   if EQ (S1.getD (S1.length-1) (0,0)).1 (S1.getD (S1.length-1) (0,0)).2 n.kind=false then (33,i) else if 24<n.depth then (31,i)
   else BT ns (i+1) (if BF n.kind.toNat then CB S1++[(n.kind.toNat,0)] else CB S1) g
def CJ(ns:List Nd):Int×Int:=if 300<ns.length then (32,300) else BT ns 0 [] false
def Stk.slice(h:Stk w B v S):∃G d,v=.slice G S.length d/\S.length<=d/\d<=maxLen:=by
 rcases h.2 with ⟨rfl,o⟩ | ⟨g,cap,D,rfl,_,_,J,I,_⟩
 ·exact⟨none,0,by rw[o],oM,by simp[maxLen]⟩
 exact⟨_,cap,rfl,J,I⟩
def Stk.cells{g:Nat}(h:Stk w B (.slice (sA g 0) n cap) S)(d:n=S.length)(i:Nat)(o:i<S.length) :
  w.cell? ⟨g,i*3,none⟩=some (nI ((i:Int)+1))/\w.cell? ⟨g,i*3+1,none⟩=some (nI S[i].1)/\w.cell? ⟨g,i*3+2,none⟩=some (nI S[i].2):=by
 subst d;obtain⟨a,b,c⟩:=yn4 0 S i o;refine⟨?_,?_,?_⟩
 ·rw[World.ownsRow.cellAt h _ oM,a];simp
 ·rw[World.ownsRow.cellAt h _ oM,b]
 rw[World.ownsRow.cellAt h _ oM,c]
def Stk.warm{g:Nat}(h:Stk w B (.slice (sA g 0) n cap) S)(d:n=S.length)(j:Nat):w.frozen? (aD g j)=false:=by subst d;exact World.ownsRow.frozenAt h j
def zZ7{m:Nat}(h:m<S.length)(o:n<=m)(d:(S[m].2:Int)<AS S[m].1):AX (S.drop n)=true:=by
 unfold AX;rw[List.any_eq_true];refine⟨S[m],?_,dT_ d⟩;have:S[m]∈S.drop m:=by rw[aP h];exact aY
 have e:S.drop m=(S.drop n).drop (m-n):=by rw[eW];congr 1;omega
 rw[e]at this;exact iK this
def zZ8{m:Nat}(h:m<S.length)(o:¬(S[m].2:Int)<AS S[m].1)(d:AX (S.drop (m+1))=false):AX (S.drop m)=false:=by rw[aP h];unfold AX at *;rw[bO,d,aN o];rfl
def zp5{n:Nd}(h:AX (S.drop (n.depth-1).toNat)=true):BT (n::ns) i S g=(33,(i:Int)):=by rw[BT,aG h]
def zm9{n:Nd}{S1:List AW}(h:S.take (n.depth-1).toNat=S1/\AX (S.drop (n.depth-1).toNat)=false)(d:n.depth≠S1.length+1\/CL n.kind n.name.toList n.num n.op=false):BT (n::ns) i S g=(33,(i:Int)):=by rw[BT,aC (by rw[h.2];simp),h.1];show(if _ then _ else _)=_;rw[aG d]
def zP1{n:Nd}(h:S.take (n.depth-1).toNat=[]/\AX (S.drop (n.depth-1).toNat)=false)(d:n.depth=1)(o:CL n.kind n.name.toList n.num n.op=true) :
  BT (n::ns) i S g=if (wh7 n.kind.toNat&&g)||(!wh7 n.kind.toNat && !wc8 n.kind) then (33,(i:Int)) else BT ns (i+1) (if BF n.kind.toNat then [(n.kind.toNat,0)] else []) (g || !wh7 n.kind.toNat):=by
 rw[BT,aC (by rw[h.2];simp),h.1];show(if _ then _ else _)=_;rw[aC (by rw[o,d];simp),aG rfl];rw[aC (by omega:¬24<n.depth)];rfl
def zZ9{n:Nd}{S1:List AW}(h:S.take (n.depth-1).toNat=S1/\AX (S.drop (n.depth-1).toNat)=false)(d:S1≠[])(o:n.depth=S1.length+1)(D:CL n.kind n.name.toList n.num n.op=true) :
  BT (n::ns) i S g=if EQ (S1.getD (S1.length-1) (0,0)).1 (S1.getD (S1.length-1) (0,0)).2 n.kind=false then (33,(i:Int)) else if 24<n.depth then (31,(i:Int)) else BT ns (i+1) (if BF n.kind.toNat then CB S1++[(n.kind.toNat,0)] else CB S1) g:=by
 rw[BT,aC (by rw[h.2];simp),h.1];show(if _ then _ else _)=_;rw[aC (by rw[D,o];simp),aC d]
def zs4{name:List UInt8}{d o:Int}(h:CL k name d o=true):0<=k/\k<=15:=by unfold CL at h;simp only[bM,bV]at h;exact⟨h.1.1.1,h.1.1.2⟩
def Tryz.info174:(Tryz.prog.info? 174).map (λi=>(i.zero,i.size,i.bytes))=some (some (.agg #[nI 0,nI 0,nI 0]),3,24):=by kernel_rfl
def Stk.grow(h:Stk w B v S)(o:Obj):(w.alloc o).ownsRow B 174 3 v S.length (CU 0 S):=World.ownsRow.alloc (show w.ownsRow B 174 3 v S.length (CU 0 S) from h) o
def Stk.push{d:Int}(h:w.ownsRow B 174 3 v (n+1) (CU 0 S++[nI d,nI k,nI 0]))(D:n=S.length)(o:d=S.length+1)(G:0<=k):Stk w B v (S++[(k.toNat,0)]):=by
 subst D o;unfold Stk;rw[zs7,aA]
 have e:CU (0+S.length) [(k.toNat,0)]=[nI ((S.length:Int)+1),nI k,nI 0]:=by simp only[CU,aL,dU G];rfl
 rw[e];exact h
def Stk.base(h:Stk w B v S):∀k,v.ownBlock=some k->B<=k:=λk d=>(World.ownsRow.lt (show w.ownsRow B 174 3 v S.length (CU 0 S) from h) k d).1
def zP2(h0:0<=k)(h:0<AS k\/k=9):BF k.toNat=true:=by
 unfold BF;rw[dU h0];rcases h with h | h
 ·rw[aV h];rfl
 subst h;rfl
def ya0(h0:0<=k)(h:¬0<AS k)(d:¬k=9):BF k.toNat=false:=by unfold BF;rw[dU h0,aN h];simp;omega
def zE2(h:2<=k):wh7 k.toNat=false:=by unfold wh7;simp;omega
def ym4(h:2<=k)(d:k<=8):wc8 k=true:=by unfold wc8;rw[aV h,aV d];rfl
def zP3(k:Int):0<=AS k/\AS k<=2:=by
 unfold AS
 split
 ·omega
 split<;>omega
def zs5{k:Nat}(h:S.length=k+1):CB S=S.set k (S[k].1,S[k].2+1):=by unfold CB;have e:S.length-1=k:=oM;have d:k<S.length:=oM;simp only[e,bT,aJ d,Option.getD_some]
def Stk.inc{g k:Nat}(h:Stk w B (.slice (sA g 0) n cap) S)(o:n=S.length)(D:S.length=k+1) :
  Stk (w.setCell ⟨g,k*3+2,none⟩ (nI ((S[k].2:Int)+1))) B (.slice (sA g 0) n cap) (CB S):=by
 subst o;have d:=(World.ownsRow.stored (show w.ownsRow B 174 3 (.slice (sA g 0) S.length cap) S.length (CU 0 S) from h) (k*3+2) (nI ((S[k].2+1:Nat):Int))).1;rw[yn5 0 S k oM,<-zs5 D]at d;unfold Stk;have e:(CB S).length=S.length:=by unfold CB;rw[dN]
 rw[e];have G:((S[k].2+1:Nat):Int)=(S[k].2:Int)+1:=oM;rw[G]at d;exact d
def zT7(S:List AW):(CB S).length=S.length:=by unfold CB;rw[dN]
def ya1{k:Nat}(o:S.length=k+1)(h:∀x∈S,x.2<=i):∀x∈CB S,x.2<=i+1:=by
 intro x d;rw[zs5 o]at d;rcases gS d with d | rfl
 ·have:=h x d;omega
 have:=h S[k] (cB _);simp;omega
set_option maxHeartbeats 2000000 in
def zT8(b o cap:Nat)(ns:List Nd)(w:World)(d:∀n∈ns,n.Ok)(G:AV w b o ns)(i9:ns.length<=cap)(j1:cap<=maxLen) :
  Calls Tryz.prog 47 #[.slice (sA b o) ns.length cap] w λe w'=>e=.returned (.tuple #[nI (CJ ns).1,nI (CJ ns).2])/\Below w.heap.size w w':=by
 have hl:ns.length<=maxLen:=oM;unfold maxLen at hl;by_cases D:300<(ns.length:Int)
 ·have X:Hi (CJ ns=(32,300)):=by unfold Hi CJ;rw[aG oM]
  clear d G;go_enter Tryz.func47,Tryz.ntmps47;go_wp2
  go_ret2
  exact⟨FU (by rw[X.o]) (by rw[X.o]),Below.refl _ _⟩
 have X:Hi (CJ ns=BT ns 0 [] false):=by unfold Hi CJ;rw[aC oM]
 have i2:(ns.length:Int)<=300:=oM;have j4:=G.lt;have HN:Hi _:=G;have HO:Hi _:=d;clear d G D;go_enter Tryz.func47,Tryz.ntmps47;go_wp2_with fail;go_loopw [4,5,6] (λv bg t wr=>∃(i:Nat) (S:List AW) (g:Bool),i<=ns.length/\t=nI i/\bg=.bool g/\Hi (BT ns 0 [] false=BT (ns.drop i) i S g)/\Hi (Below w.heap.size w wr)/\Hi (Stk wr w.heap.size v S)/\S.length<=24/\Hi (∀h∈S,h.2<=i)) (λ_ _ t _=>ns.length-(intOf t).toNat)
 case atStart=>exact⟨0,[],false,oM,rfl,rfl,rfl,Below.refl _ _,World.ownsRow_nil _ _ _ _,by simp,λh hh=>absurd hh (by simp)⟩
 obtain⟨i,S,g,hi,rfl,rfl,hr,HB,HS,h3,HK⟩:=hrel;obtain⟨W,hW⟩:=qq (wr);subst hW;have hz:=HB.o.size;by_cases b0:i<ns.length
 ·have d:=HN.o.below HB.o
  have c0:=d.c0 i b0;have c1:=d.c1 i b0;have c2:=d.c2 i b0;have c3:=d.c3 i b0;have c4:=d.c4 i b0;have c5:=d.c5 i b0;have g6:Hi _:=HO.o ns[i] (cB _)
  have D:Hi (BT ns 0 [] false=BT (ns[i]::ns.drop (i+1)) i S g):=by unfold Hi;rw[hr.o,aP b0]
  clear hr d;generalize ns[i]=nd at *;have j0:¬b=W.heap.size:=oM;go_wp2_with fail
  have g8:Hi (wc5 (W.alloc (.cells #[nI nd.depth,nI nd.kind,.string nd.name,nI nd.num,nI nd.op,nI nd.pos] 53)) W.heap.size nd):=by constructor<;>simp[go_sem]
  have h9:Hi (Below w.heap.size w (W.alloc (.cells #[nI nd.depth,nI nd.kind,.string nd.name,nI nd.num,nI nd.op,nI nd.pos] 53))):=HB.o.alloc hz _;have h7:Hi (Stk (W.alloc (.cells #[nI nd.depth,nI nd.kind,.string nd.name,nI nd.num,nI nd.op,nI nd.pos] 53)) w.heap.size u4 S):=HS.o.below ((Below.refl _ _).alloc (nR_ _) _);have h6:Hi (∀q,u4.ownBlock=some q->q<W.heap.size):=λq hq=>(World.ownsRow.lt (show W.ownsRow w.heap.size 174 3 u4 S.length (CU 0 S) from HS.o) q hq).2;clear c0 c1 c2 c3 c4 c5 HS HB;go_loopw [4] (λv' wv=>∃m:Nat,m<=S.length/\(m=S.length\/nd.depth<=(m:Int)+1)/\Hi (Stk wv w.heap.size v' (S.take m))/\Hi (AX (S.drop m)=false)/\Hi (Below w.heap.size w wv)/\Hi (wc5 wv W.heap.size nd)/\W.heap.size<wv.heap.size/\Hi (∀q,v'.ownBlock=some q->q<W.heap.size)) (λv' _=>wg1 v')
  case atStart=>exact⟨S.length,aK _,.inl rfl,by rw[cH];exact h7,by unfold Hi;rw[List.drop_length];rfl,h9,g8,by simp,h6⟩
  obtain⟨m,hm,hmd,a1,HW,b8,b3,b2,f4⟩:=hrel;have a6:(S.take m).length=m:=by rw[bH];omega
  obtain⟨ao,cp,hv,c7,g5⟩:=a1.o.slice;rw[a6]at hv c7;have d0:=b3.o.c0;by_cases f9:0<m/\nd.depth<=(m:Int)
  ·obtain⟨d5,k3⟩:=f9
   obtain⟨k,rfl⟩:∃k,m=k+1:=⟨m-1,oM⟩;obtain⟨Y,f5,a5,g0,b4⟩:=a1.o.form oM;rw[a6]at a5;subst a5;obtain⟨e0,e1,e2⟩:=a1.o.cells (by rw[a6]) k oM;have d:(S.take (k+1))[k]'oM=S[k]:=eQ;rw[d]at e1 e2;simp only[Value.slice.injEq]at hv;obtain⟨rfl,_,rfl⟩:=hv;have L:k<S.length:=oM;have f7:S[k].2<=400:=oH (HK.o _ (cB L))
   have I:=hid (a1.o.pop hm);have Z:¬Y=wr.heap.size:=oM;have R:¬W.heap.size=wr.heap.size:=oM;have q0:(0:Int)<(k:Int)+1:=oM;have q1:(0:Int)<((k+1:Nat):Int):=oM;have q2:nd.depth<=(k:Int)+1:=oM;have q3:k<k+1:=oM;have q4:(k:Int)<(k:Int)+1:=oM;have q5:(k:Int)<=24:=oM;have q7:(0:Int)<=k:=oM;clear d d5;go_wp2_with fail;go_quiet (fail);have J:Below wr.heap.size wr (wr.drewN nq):=below_drewN (Below.refl _ _) nq;have O:=hid (I.o.below J);have K:=hid (below_drewN b8.o nq);have d:∀o,(wr.drewN nq).cell? (aD W.heap.size o)=wr.cell? (aD W.heap.size o):=λo=>J.cell (p:=⟨W.heap.size,o,none⟩) b2;have G:Hi _:=b3.o.of d;have j9:(wr.drewN nq).cell? ⟨Y,k*3,none⟩=_:=(J.cell (p:=⟨Y,k*3,none⟩) b4).trans e0;have k7:(wr.drewN nq).cell? ⟨Y,k*3+1,none⟩=_:=(J.cell (p:=⟨Y,k*3+1,none⟩) b4).trans e1;have i6:(wr.drewN nq).cell? ⟨Y,k*3+2,none⟩=_:=(J.cell (p:=⟨Y,k*3+2,none⟩) b4).trans e2;have f2:wr.heap.size<=(wr.drewN nq).heap.size:=J.size;have k4:=G.o.c0;generalize wr.drewN nq=W2 at *;clear J d e0 e1 e2 d0 I b8 b3;have g3:W.heap.size<W2.heap.size:=oM;have h4:Y<W2.heap.size:=oM;clear Z R;have Z:¬Y=W2.heap.size:=oM;have R:¬W.heap.size=W2.heap.size:=oM;by_cases c6:(S[k].2:Int)<AS S[k].1
   ·have HE:Hi (BT ns 0 [] false=(33,(i:Int))):=by
     unfold Hi;rw[D.o,zp5 (zZ7 L oM c6)]
    generalize S[k].1=kd at *;generalize S[k].2=hd at *;go_wp2_with fail
    go_quiet ((go_at_call 79;exact Calls.quiet_of_same (ze3 _ _)))
    go_wp2_with fail
    go_ret2
    exact⟨FU (by rw[X.o,HE.o]) (by rw[X.o,HE.o]),below_drewN (K.o.alloc oM _) _⟩
   have I:Hi _:=zZ8 L c6 HW.o;have h0:AS S[k].1<=(S[k].2:Int):=oM;generalize S[k].1=kd at *;generalize S[k].2=hd at *;go_wp2_with fail
   go_quiet ((go_at_call 79;exact Calls.quiet_of_same (ze3 _ _)))
   go_wp2_with fail;have d:Below W2.heap.size W2 ((W2.alloc (Obj.cells #[.int .i64 ((k:Int)+1),.int .i64 kd,.int .i64 hd] 174)).drewN nq):=below_drewN ((Below.refl _ _).alloc (nR_ _) _) _;refine⟨⟨k,oM,.inr q2,O.o.below d,I,K.o.trans (d.mono oM),G.o.of (λo=>d.cell (p:=⟨W.heap.size,o,none⟩) g3),?_,f4⟩,by simp[wg1]⟩;have:=d.size;omega
  have HT:Hi (S.take (nd.depth-1).toNat=S.take m/\AX (S.drop (nd.depth-1).toNat)=false):=by
   rcases hmd with rfl | hmd
   ·by_cases d:S.length<=(nd.depth-1).toNat
    ·exact⟨by rw[bE d,cH],by rw[aU d];rfl⟩
    have:S.length=0:=oM;have e:S=[]:=cX.1 this;subst e;exact⟨by simp,by simp[AX]⟩
   have e:(nd.depth-1).toNat=m\/(m=0/\(nd.depth-1).toNat=0):=oM;rcases e with e | ⟨e1,e2⟩
   ·rw[e];exact⟨rfl,HW.o⟩
   rw[e1,e2];rw[e1]at HW;exact⟨rfl,HW.o⟩
  subst hv;by_cases d5:m=0
  ·subst d5
   have d:=hid a1;clear a1 a6 c7 f9 hmd HW;go_wp2_with fail;go_quiet (fail);have J:Below wr.heap.size wr (wr.drewN nq):=below_drewN (Below.refl _ _) nq;have d1:=hid (d.o.below J);have b1:=hid (below_drewN b8.o nq);have a8:Hi (wc5 (wr.drewN nq) W.heap.size nd):=b3.o.of (λo=>J.cell (p:=⟨W.heap.size,o,none⟩) b2);have f2:W.heap.size<(wr.drewN nq).heap.size:=lL_ b2 J.size;clear J d b8 b3 b2 d0;generalize wr.drewN nq=W2 at *;obtain⟨c0,c1,c2,c3,c4,c5⟩:=a8.o;by_cases a4:nd.depth=1
   ·have c9:(nd.depth != 1)=false:=by rw[a4];rfl
    have a9:Hi _:=a4;clear a4;go_wp2_with fail;refine mq (zw7 _ _ _ _ _ _ _ g6.o.name) λw3 Z=>?_;have a2:Hi (Below w.heap.size w w3):=b1.o.trans (Z.mono oM);have a7:=hid (d1.o.below Z);have g3:W2.heap.size<=w3.heap.size:=Z.size;have g1:w3.cell? (aD W.heap.size 0)=some (nI nd.depth):=(Z.cell (p:=⟨W.heap.size,0,none⟩) f2).trans c0;clear Z c0 c1 c2 c3 c4 c5 a8 d1 b1;cases a3:CL nd.kind nd.name.toList nd.num nd.op
    ·have HE:Hi (BT ns 0 [] false=(33,(i:Int))):=by
      unfold Hi;rw[D.o,zm9 (S1:=[]) HT.o (.inr a3)]
     go_wp2_with fail
     go_ret2
     exact⟨FU (by rw[X.o,HE.o]) (by rw[X.o,HE.o]),a2.o⟩
    have G:Hi _:=zP1 (ns:=ns.drop (i+1)) (i:=i) (g:=g) HT.o a9.o a3;obtain⟨k0,i3⟩:=zs4 a3;clear a3;have b5:nd.depth<=24:=oH a9.o
    have kc:nd.kind=0\/nd.kind=1\/(2<=nd.kind/\nd.kind<=8)\/9<=nd.kind:=oM;generalize d:nd.kind=kd at *;have k1:Hi _:=d;clear d;rcases kc with rfl | rfl | ⟨kl,kh⟩ | kh
    iterate 2
     ·cases g
      ·have I:Hi (BT ns 0 [] false=BT (ns.drop (i+1)) (i+1) [] false):=by
        unfold Hi;rw[D.o,G.o];rfl
       clear G
       go_wp2_with (first|(go_at_call 79;refine mq (ze3 _ _) λw' d=>?_;replace d:=d.symm;subst d;rw[show AS 0=0 from rfl]) | (go_at_call 79;refine mq (ze3 _ _) λw' d=>?_;replace d:=d.symm;subst d;rw[show AS 1=0 from rfl]))
       go_roundw
       case rel=>exact⟨i+1,[],false,oM,by go_num,rfl,I,a2,a7,by simp,λh hh=>by simp at hh⟩
       case measure=>simp[intOf];omega
      have I:Hi (BT ns 0 [] false=(33,(i:Int))):=by unfold Hi;rw[D.o,G.o];rfl
      clear G;go_wp2_with fail
      go_ret2
      exact⟨FU (by rw[X.o,I.o]) (by rw[X.o,I.o]),a2.o⟩
    ·have n0:(kd==0)=false:=by rw[aF];omega
     have n1:(kd==1)=false:=by rw[aF];omega
     have n9:(kd==9)=false:=by rw[aF];omega
     have i1:¬kd=0:=oM;have i4:¬kd=1:=oM;have b9:(decide (2<=kd)&&decide (kd<=8))=true:=by rw[aV kl,aV kh];rfl
     have d4:Hi (∀w,Calls Tryz.prog 81 #[nI kd] w λe w'=>e=.returned (.bool true)/\w'=w):=λw=>(zh9 kd w).mono λe w' h=>by rw[b9]at h;exact h
     clear b9;obtain⟨i0,f1,f3,d7,b7⟩:=info_parts Tryz.info174
     have I:Hi (BT ns 0 [] false=BT (ns.drop (i+1)) (i+1) (if BF kd.toNat then [(kd.toNat,0)] else []) true):=by
      unfold Hi;have h1:=G.o;rw[zE2 kl,ym4 kl kh]at h1;rw[D.o,h1]
      cases g<;>rfl
     clear G;by_cases R:0<AS kd
     ·rw[zP2 oM (.inl R),aG rfl]at I
      cases g
      all_goals
       go_wp2_with (first|(go_at_call 79;refine mq (ze3 _ _) λw' d=>?_;replace d:=d.symm;subst d) | (go_at_call 81;refine mq (d4.o _) λw' d=>?_;replace d:=d.symm;subst d) | (at_builtin;refine wpList_append_own _ rfl _ _ 172 rfl w.heap.size 174 i0 (.agg #[nI 0,nI 0,nI 0]) 3 24 Tryz.underlying172 f1 f3 d7 b7 rfl dC _ _ _ rfl (a7.o.grow _) ⟨w3.heap.size,0,none⟩ 1 1 [nI nd.depth,nI kd,nI 0] rfl rfl ?ap1 ?ap2 ?ap3 ?ap4 ?ap5 ?_))
       case ap1 =>
        intro j u O
        match j,O with
        | 0,O=>simp at O;subst O;simp[Addr.add,go_sem]
        | 1,O=>simp at O;subst O;simp[Addr.add,go_sem]
        | 2,O=>simp at O;subst O;simp[Addr.add,go_sem]
       case ap2=>intro u hu;simp at hu;rcases hu with rfl | rfl | rfl<;>rfl
       case ap3=>simp[maxLen]
       case ap4=>simp
       case ap5=>simp;omega
       intro v' w1 L K _;have d6:Hi (Stk w1 w.heap.size v' ([]++[(kd.toNat,0)])):=Stk.push L rfl (by rw[a9.o];rfl) oM;have d3:Hi (Below w.heap.size w w1):=(a2.o.alloc oM _).grown K (by simp;omega) (Stk.base a7.o);clear L K;go_wp2_with fail;go_roundw
       case rel=>exact⟨i+1,[(kd.toNat,0)],true,oM,by go_num,rfl,I,d3,d6,by simp,λh hh=>by simp at hh;subst hh;simp⟩
       case measure=>simp[intOf];omega
     rw[ya0 oM R oM,aC (by simp)]at I;have g7:AS kd<=0:=oM;clear R;cases g
     all_goals
      go_wp2_with (first|(go_at_call 79;refine mq (ze3 _ _) λw' d=>?_;replace d:=d.symm;subst d) | (go_at_call 81;refine mq (d4.o _) λw' d=>?_;replace d:=d.symm;subst d))
      go_roundw
      case rel=>exact⟨i+1,[],true,oM,by go_num,rfl,I,a2,a7,by simp,λh hh=>by simp at hh⟩
      case measure=>simp[intOf];omega
    have n0:(kd==0)=false:=by rw[aF];omega
    have n1:(kd==1)=false:=by rw[aF];omega
    have i1:¬kd=0:=oM;have i4:¬kd=1:=oM;have b9:wc8 kd=false:=by unfold wc8;rw[aN (by omega:¬kd<=8)];simp
    have d4:Hi (∀w,Calls Tryz.prog 81 #[nI kd] w λe w'=>e=.returned (.bool false)/\w'=w):=λw=>(zh9 kd w).mono λe w' h=>by have h2:e=.returned (.bool (wc8 kd))/\w'=w:=h;rw[b9]at h2;exact h2
    have I:Hi (BT ns 0 [] false=(33,(i:Int))):=by
     unfold Hi;have h1:=G.o;rw[zE2 oM,b9]at h1;rw[D.o,h1]
     cases g<;>rfl
    clear G b9;cases g
    all_goals
     go_wp2_with (go_at_call 81;refine mq (d4.o _) λw' d=>?_;replace d:=d.symm;subst d)
     go_ret2
     exact⟨FU (by rw[X.o,I.o]) (by rw[X.o,I.o]),a2.o⟩
   have HE:Hi (BT ns 0 [] false=(33,(i:Int))):=by unfold Hi;rw[D.o,zm9 (S1:=[]) HT.o (.inl a4)]
   have c9:(nd.depth != 1)=true:=by rw[dO];exact a4
   go_wp2_with fail
   go_ret2
   exact⟨FU (by rw[X.o,HE.o]) (by rw[X.o,HE.o]),b1.o⟩
  obtain⟨k,rfl⟩:∃k,m=k+1:=⟨m-1,oM⟩;obtain⟨Y,f5,a5,g0,b4⟩:=a1.o.form oM;rw[a6]at a5;simp only[Value.slice.injEq]at a5;obtain⟨rfl,_,rfl⟩:=a5;have q0:(0:Int)<(k:Int)+1:=oM;have q1:(0:Int)<((k+1:Nat):Int):=oM;have q2:(k:Int)+1<nd.depth:=oM;have q3:k<k+1:=oM;have q4:(k:Int)<(k:Int)+1:=oM;have q5:(k:Int)<=24:=oM;have q7:(0:Int)<=k:=oM;have g4:Hi (∀h∈S.take (k+1),h.2<=i):=λh hh=>HK.o h (dR hh);have j3:k+1<=24:=oM;clear f9 hmd HW d5 hm HK h3;obtain⟨S1,I⟩:=qq (S.take (k+1));rw[<-I]at a1 a6 HT g4;clear I;have d9:k<S1.length:=oM;have f7:S1[k].2<=400:=oH (g4.o _ (cB d9))
  obtain⟨e0,e1,e2⟩:=a1.o.cells (by rw[a6]) k d9;have I:=hid a6;clear a6;go_wp2_with fail;go_quiet (fail);have J:Below wr.heap.size wr (wr.drewN nq):=below_drewN (Below.refl _ _) nq;have d1:=hid (a1.o.below J);have b1:=hid (below_drewN b8.o nq);have a8:Hi (wc5 (wr.drewN nq) W.heap.size nd):=b3.o.of (λo=>J.cell (p:=⟨W.heap.size,o,none⟩) b2);have f2:W.heap.size<(wr.drewN nq).heap.size:=lL_ b2 J.size;have h4:Y<(wr.drewN nq).heap.size:=lL_ b4 J.size;clear J a1 b8 b3 b2 d0 e0 e1 e2 b4;generalize wr.drewN nq=W2 at *;obtain⟨c0,c1,c2,c3,c4,c5⟩:=a8.o;by_cases a4:nd.depth=(k:Int)+2
  ·have c9:(nd.depth != (k:Int)+1+1)=false:=by rw[a4];simp;omega
   have a9:Hi _:=a4;clear a4;go_wp2_with fail;refine mq (zw7 _ _ _ _ _ _ _ g6.o.name) λw3 Z=>?_;have a2:Hi (Below w.heap.size w w3):=b1.o.trans (Z.mono oM);have a7:=hid (d1.o.below Z);have g3:W2.heap.size<=w3.heap.size:=Z.size;have g1:w3.cell? (aD W.heap.size 0)=some (nI nd.depth):=(Z.cell (p:=⟨W.heap.size,0,none⟩) f2).trans c0;clear Z c0 c1 c2 c3 c4 c5 a8 d1 b1;cases a3:CL nd.kind nd.name.toList nd.num nd.op
   ·have HE:Hi (BT ns 0 [] false=(33,(i:Int))):=by
     unfold Hi;rw[D.o,zm9 HT.o (.inr a3)]
    go_wp2_with fail
    go_ret2
    exact⟨FU (by rw[X.o,HE.o]) (by rw[X.o,HE.o]),a2.o⟩
   have G:Hi _:=zZ9 (ns:=ns.drop (i+1)) (i:=i) (g:=g) HT.o (λh=>by have:=I.o;rw[h]at this;simp at this) (by rw[I.o,a9.o];omega) a3;obtain⟨k0,i3⟩:=zs4 a3;clear a3;obtain⟨e0,e1,e2⟩:=a7.o.cells I.o.symm k d9;have h5:=a7.o.warm I.o.symm
   have J:S1.getD (S1.length-1) (0,0)=S1[k]:=by
    have e:S1.length-1=k:=oH I.o
    rw[e,bT,aJ d9];rfl
   rw[J]at G;clear J;have k5:¬Y=W.heap.size:=oH (f4.o Y rfl)
   have i8:¬W.heap.size=Y:=oM;have g9:Hi (∀W,Stk W w.heap.size (.slice (sA Y 0) (k+1) cp) S1->Stk (W.setCell ⟨Y,k*3+2,none⟩ (nI ((S1[k].2:Int)+1))) w.heap.size (.slice (sA Y 0) (k+1) cp) (CB S1)):=λW h=>h.inc I.o.symm I.o;have k8:¬(k:Int)+1=0:=oM;have k2:((k:Int)+1==0)=false:=by rw[aF];omega
   generalize S1[k].1=okd at *;generalize S1[k].2=f0 at *;go_wp2_with fail;refine mq (zs3 _ _ _ _ _) λw4 J=>?_;have i5:Y<w3.heap.size:=oM;have d3:Hi (Below w.heap.size w w4):=a2.o.trans (J.mono oM);have d6:=hid (a7.o.below J);have k6:w3.heap.size<=w4.heap.size:=J.size;have j6:w4.cell? (aD W.heap.size 0)=some (nI nd.depth):=(J.cell (p:=⟨W.heap.size,0,none⟩) (by show W.heap.size<w3.heap.size;omega)).trans g1;have i6:w4.cell? ⟨Y,k*3+2,none⟩=some (nI f0):=(J.cell (p:=⟨Y,k*3+2,none⟩) i5).trans e2;have j7:∀j,w4.frozen? (aD Y j)=false:=d6.o.warm I.o.symm;clear J g1 e0 e1 e2 h5;cases J:EQ okd f0 nd.kind
   ·have HE:Hi (BT ns 0 [] false=(33,(i:Int))):=by
     unfold Hi;rw[D.o,G.o,aG J]
    go_wp2_with fail
    go_ret2
    exact⟨FU (by rw[X.o,HE.o]) (by rw[X.o,HE.o]),d3.o⟩
   rw[aC (by rw[J];simp)]at G;clear J;have d8:=hid (g9.o w4 d6.o);have d2:Hi (Below w.heap.size w (w4.setCell ⟨Y,k*3+2,none⟩ (nI ((f0:Int)+1)))):=d3.o.setCell g0 _;by_cases b5:24<nd.depth
   ·rw[aG b5]at G
    go_wp2_with fail
    go_ret2
    exact⟨FU (by rw[X.o,D.o,G.o]) (by rw[X.o,D.o,G.o]),d2.o⟩
   rw[aC b5]at G;have h8:nd.depth<=24:=oM;clear b5;have g2:=hid (ya1 I.o g4.o);have J:Hi ((CB S1).length=k+1):=by unfold Hi;rw[zT7,I.o]
   obtain⟨i0,f1,f3,d7,b7⟩:=info_parts Tryz.info174;by_cases R:0<AS nd.kind\/nd.kind=9
   ·rw[zP2 k0 R,aG rfl]at G
    have j2:k+2<=24:=oH a9.o
    have c8:Hi (∀o,((w4.setCell ⟨Y,k*3+2,none⟩ (nI ((f0:Int)+1))).alloc o).ownsRow w.heap.size 174 3 (.slice (sA Y 0) (k+1) cp) (k+1) (CU 0 (CB S1))):=λo=>by have:=d8.o.grow o;rw[J.o]at this;exact this
    have b6:Hi (BT ns 0 [] false=BT (ns.drop (i+1)) (i+1) (CB S1++[(nd.kind.toNat,0)]) g):=by unfold Hi;rw[D.o,G.o]
    clear G D HT;generalize nd.kind=kd at *;rcases R with R | rfl
    ·go_wp2_with (first|(go_at_call 79;refine mq (ze3 _ _) λw' d=>?_;replace d:=d.symm;subst d) | (at_builtin;refine wpList_append_own _ rfl _ _ 172 rfl w.heap.size 174 i0 (.agg #[nI 0,nI 0,nI 0]) 3 24 Tryz.underlying172 f1 f3 d7 b7 rfl dC _ _ _ rfl (c8.o _) ⟨w4.heap.size,0,none⟩ 1 1 [nI nd.depth,nI kd,nI 0] rfl rfl ?bp1 ?bp2 ?bp3 ?bp4 ?bp5 ?_))
     case bp1 =>
      intro j u O
      match j,O with
      | 0,O=>simp at O;subst O;simp[Addr.add,go_sem]
      | 1,O=>simp at O;subst O;simp[Addr.add,go_sem]
      | 2,O=>simp at O;subst O;simp[Addr.add,go_sem]
     case bp2=>intro u hu;simp at hu;rcases hu with rfl | rfl | rfl<;>rfl
     case bp3=>unfold maxLen;omega
     case bp4=>omega
     case bp5=>simp;omega
     intro v' w1 L K _;have f8:Hi (Stk w1 w.heap.size v' (CB S1++[(kd.toNat,0)])):=Stk.push L J.o.symm (by rw[J.o,a9.o];push_cast;omega) k0;have f6:Hi (Below w.heap.size w w1):=(d2.o.alloc (by simp;omega) _).grown K (by simp;omega) (Stk.base d8.o);clear L K;go_wp2_with fail;go_roundw
     case rel=>exact⟨i+1,_,g,oM,by go_num,rfl,b6,f6,f8,by rw[aA,J.o];simp;omega,λh hh=>by
      rcases bA.1 hh with hh | hh
      ·exact g2.o h hh
      simp at hh;subst hh;simp⟩
     case measure=>simp[intOf];omega
    have i7:Hi _:=c8
    go_wp2_with (first|(go_at_call 79;refine mq (ze3 _ _) λw' d=>?_;replace d:=d.symm;subst d) | (at_builtin;refine wpList_append_own _ rfl _ _ 172 rfl w.heap.size 174 i0 (.agg #[nI 0,nI 0,nI 0]) 3 24 Tryz.underlying172 f1 f3 d7 b7 rfl dC _ _ _ rfl (c8.o _) ⟨w4.heap.size,0,none⟩ 1 1 [nI nd.depth,nI 9,nI 0] rfl rfl ?bq1 ?bq2 ?bq3 ?bq4 ?bq5 ?_))
    case bq1 =>
     intro j u O
     match j,O with
     | 0,O=>simp at O;subst O;simp[Addr.add,go_sem]
     | 1,O=>simp at O;subst O;simp[Addr.add,go_sem]
     | 2,O=>simp at O;subst O;simp[Addr.add,go_sem]
    case bq2=>intro u hu;simp at hu;rcases hu with rfl | rfl | rfl<;>rfl
    case bq3=>unfold maxLen;omega
    case bq4=>omega
    case bq5=>simp;omega
    intro v' w1 L K _;have f8:Hi (Stk w1 w.heap.size v' (CB S1++[((9:Int).toNat,0)])):=Stk.push L J.o.symm (by rw[J.o,a9.o];push_cast;omega) oM;have f6:Hi (Below w.heap.size w w1):=(d2.o.alloc (by simp;omega) _).grown K (by simp;omega) (Stk.base d8.o);clear L K;go_wp2_with fail;go_roundw
    case rel=>exact⟨i+1,_,g,oM,by go_num,rfl,b6,f6,f8,by rw[aA,J.o];simp;omega,λh hh=>by
     rcases bA.1 hh with hh | hh
     ·exact g2.o h hh
     simp at hh;subst hh;simp⟩
    case measure=>simp[intOf];omega
   rw[ya0 k0 (λh=>R (.inl h)) (λh=>R (.inr h)),aC (by simp)]at G;have b6:Hi (BT ns 0 [] false=BT (ns.drop (i+1)) (i+1) (CB S1) g):=by unfold Hi;rw[D.o,G.o]
   clear G D HT;have n9:(nd.kind==9)=false:=by rw[aF];exact λh=>R (.inr h)
   have k9:¬nd.kind=9:=λh=>R (.inr h)
   have g7:AS nd.kind<=0:=by
    rcases iQ 0 (AS nd.kind) with h | h
    ·exact absurd (.inl h) R
    exact h
   clear R
   go_wp2_with (go_at_call 79;refine mq (ze3 _ _) λw' d=>?_;replace d:=d.symm;subst d)
   go_roundw
   case rel=>exact⟨i+1,_,g,oM,by go_num,rfl,b6,d2,by unfold Hi;exact d8.o,by rw[J.o];omega,g2⟩
   case measure=>simp[intOf];omega
  have HE:Hi (BT ns 0 [] false=(33,(i:Int))):=by unfold Hi;rw[D.o,zm9 HT.o (.inl (by rw[I.o];omega))]
  have c9:(nd.depth != (k:Int)+1+1)=true:=by rw[dO];omega
  go_wp2_with fail
  go_ret2
  exact⟨FU (by rw[X.o,HE.o]) (by rw[X.o,HE.o]),b1.o⟩
 have Z:ns.length<=i:=oM;have ei:i=ns.length:=oM
 have HE:Hi (BT ns 0 [] false=if AX S then (33,(i:Int)) else (0,0)):=by unfold Hi;rw[hr.o,aU Z];rfl
 obtain⟨ao,cp,hv,c7,g5⟩:=HS.o.slice;subst hv;clear hr;go_wp2_with fail;go_loopw [12] (λt wv=>∃j:Nat,j<=S.length/\t=nI j/\Hi (AX S=AX (S.drop j))/\Hi (Stk wv w.heap.size (.slice ao S.length cp) S)/\Hi (Below w.heap.size w wv)) (λt _=>S.length-(intOf t).toNat)
 case atStart=>exact⟨0,oM,rfl,by unfold Hi;rw[bB],HS,HB⟩
 obtain⟨j,O,rfl,D,I,G⟩:=hrel;by_cases J:j<S.length
 ·obtain⟨Y,f5,a5,g0,b4⟩:=I.o.form oM
  simp only[Value.slice.injEq]at a5;obtain⟨rfl,_,rfl⟩:=a5;obtain⟨e0,e1,e2⟩:=I.o.cells rfl j J
  have d:AX (S.drop j)=(decide ((S[j].2:Int)<AS S[j].1)||AX (S.drop (j+1))):=by rw[aP J];rfl
  have L:Hi _:=d;clear d;have K:(j:Int)<S.length:=oM;obtain⟨j5,j8⟩:=zP3 S[j].1;by_cases c6:(S[j].2:Int)<AS S[j].1
  ·have d:Hi (BT ns 0 [] false=(33,(ns.length:Int))):=by
    unfold Hi;rw[HE.o,D.o,L.o,aV c6,<-ei];rfl
   generalize S[j].1=kd at *;generalize S[j].2=hd at *;go_wp2_with fail
   go_quiet ((go_at_call 79;exact Calls.quiet_of_same (ze3 _ _)))
   go_wp2_with fail
   go_ret2
   exact⟨FU (by rw[X.o,d.o]) (by rw[X.o,d.o]),below_drewN G.o _⟩
  have R:Hi (AX S=AX (S.drop (j+1))):=by unfold Hi;rw[D.o,L.o,aN c6];rfl
  have h0:AS S[j].1<=(S[j].2:Int):=oM;clear c6 D;generalize S[j].1=kd at *;generalize S[j].2=hd at *;go_wp2_with fail
  go_quiet ((go_at_call 79;exact Calls.quiet_of_same (ze3 _ _)))
  go_wp2_with fail;go_roundw
  case rel=>exact⟨j+1,oM,by go_num,R,I.o.below (below_drewN (Below.refl _ _) _),below_drewN G.o _⟩
  case measure=>simp[intOf];omega
 have d:Hi (BT ns 0 [] false=(0,0)):=by unfold Hi;rw[HE.o,D.o,aU oM];rfl
 have K:(S.length:Int)<=j:=oM;go_wp2_with fail
 go_ret2
 exact⟨FU (by rw[X.o,d.o]) (by rw[X.o,d.o]),G.o⟩
end Go.Proofs.YthoegkcpmgalbaaGreatDoor
