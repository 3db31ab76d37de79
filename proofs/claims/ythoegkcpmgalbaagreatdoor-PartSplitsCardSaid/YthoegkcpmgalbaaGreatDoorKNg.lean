import Derived.Test.YthoegkcpmgalbaaGreatDoorKJd
import Derived.Test.YthoegkcpmgalbaaGreatDoorKNe
set_option maxHeartbeats 8000000
set_option linter.all false
set_option maxRecDepth 100000
namespace Go.Proofs.YthoegkcpmgalbaaGreatDoor
open Go.RowKit Go.Maps
def wj7(g:Nat)(X Y:World):Prop:=X.heap.size<=Y.heap.size/\∀b,b≠g->b<X.heap.size->Y.heap[b]?=X.heap[b]?
def wj7.of{g:Nat}{X Y:World}(h:Ok X Y):wj7 g X Y:=⟨h.le,λb _ d=>Below.block h b d⟩
def wj7.row{g b:Nat}{X Y:World}{o:Obj}(h:wj7 g X Y)(d:b≠g)(e:X.heap[b]?=some o):Y.heap[b]?=some o:=(h.2 b d (za2 e)).trans e
def QS.begin(wr:World)(I G:Nat)(a:Nat->Value)(p:Pl)(d:a 11=nI (p.cap:Nat))(J:FQ wr I G p.mgd)(X:Lib.TabBelow Tryz.prog wr.heap.size wr "internal/strconv.uint64pow10" .u64 Lib.pow10Tab)(O:p.cap<=10) :
  let F:FA:=⟨wr.heap.size+1+1,wr.heap.size,wr.heap.size+1,I,G,wr.heap.size+1+1+1,a⟩
  QOk wr F p/\QS wr F (((wr.alloc (.map #[] 0)).alloc (.map #[] 0)).alloc (.cells (F.row (sZ) (sZ)) 67)) (sZ) (sZ) [] [] [] []:=by
 intro F;have R:Ok wr (wr.alloc (.map #[] 0)):=(Ok.refl _).alloc _;have D:Ok (wr.alloc (.map #[] 0)) ((wr.alloc (.map #[] 0)).alloc (.map #[] 0)):=(Ok.refl _).alloc _;have o:Ok ((wr.alloc (.map #[] 0)).alloc (.map #[] 0)) (((wr.alloc (.map #[] 0)).alloc (.map #[] 0)).alloc (.cells (F.row (sZ) (sZ)) 67)):=(Ok.refl _).alloc _;have Y:(wr.alloc (.map #[] 0)).heap.size=wr.heap.size+1:=by simp
 have W:((wr.alloc (.map #[] 0)).alloc (.map #[] 0)).heap.size=wr.heap.size+1+1:=by simp
 refine⟨⟨?_,?_,?_,?_,?_,?_,?_,?_,?_,d,J,X,O⟩,⟨R.step (D.step o),by simp[F],?_,⟨[],rfl,World.ownsRow_nil _ _ _ _,λi v x Z _=>by simp at Z⟩,World.ownsRow_nil _ _ _ _,?_,?_⟩⟩
 ·show wr.heap.size<=wr.heap.size+1+1;omega
 ·show wr.heap.size<=wr.heap.size;omega
 ·show wr.heap.size<=wr.heap.size+1;omega
 ·show wr.heap.size+1+1<wr.heap.size+1+1+1;omega
 ·show wr.heap.size<wr.heap.size+1+1+1;omega
 ·show wr.heap.size+1<wr.heap.size+1+1+1;omega
 ·show wr.heap.size+1+1≠wr.heap.size;omega
 ·show wr.heap.size+1+1≠wr.heap.size+1;omega
 ·show wr.heap.size≠wr.heap.size+1;omega
 ·show _=_
  have h:=za3 ((wr.alloc (.map #[] 0)).alloc (.map #[] 0)) (.cells (F.row (sZ) (sZ)) 67);rw[W]at h;exact h
 ·have h:=(CE.made wr 9).ok (D.step o)
  refine h.as (λK L _=>?_);unfold kyF
  split<;>rfl
 have h:=(FR.made (wr.alloc (.map #[] 0))).ok o;rw[Y]at h;obtain⟨g,L,K⟩:=h;exact⟨g,L,λx=>by rw[K];simp[many]⟩
def yG3(v:Nat->Value)(c:Nat->Int)(tz:Option Addr)(tn tc:Nat)(N x cap f kf:Nat)(es:List Ed)(R:List Int×List Vx×List Lk)(w:World)(I:∀i,i<6->∃ao n c,v i=.slice ao n c)
  (K:∀Y,Ok w Y->Calls Tryz.prog 15 #[.agg #[v 0,v 1,v 2,v 3,v 4,v 5],.agg #[nI (c 0),nI (c 1),nI (c 2),nI (c 3),nI (c 4),nI (c 5),.slice tz tn tc,nI (c 7),nI (c 8)]] Y λe w'=>e=.returned (nI 0)/\Ok Y w')
  (hl:∀Y,Ok w Y->Calls Tryz.prog 16 #[.agg #[v 0,v 1,v 2,v 3,v 4,v 5]] Y λe w'=>∃ev:Value,e=.returned (.tuple #[.agg #[v 0,v 1,v 2,v 3,v 4,v 5,nI (N:Nat),nI (x:Nat),ev],nI 0])/\w'.ownsRow Y.heap.size 98 6 ev es.length (edL es)/\Ok Y w')
  (hB:PB N (DR cap (c 0) (c 1) es [])) (d:c 2=(cap:Nat)) (hf:N*cap<f) (G:kf<=2000) (D:FW cap (c 0) (c 1) es f kf []=some R) (hT:Lib.TabBelow Tryz.prog w.heap.size w "internal/strconv.uint64pow10" .u64 Lib.pow10Tab) :
  Calls Tryz.prog 7 #[.agg #[v 0,v 1,v 2,v 3,v 4,v 5],.agg #[nI (c 0),nI (c 1),nI (c 2),nI (c 3),nI (c 4),nI (c 5),.slice tz tn tc,nI (c 7),nI (c 8)]] w λe w'=>wn2 w N R e w':=by
 obtain⟨g0,n0,k0,g1,n1,k1,g2,n2,k2,g3,n3,k3,g4,n4,k4,g5,n5,k5,L,Z,W,O,X,e5⟩:=DV I;rw[L,Z,W,O,X,e5]at K hl;rw[L,Z,W,O,X,e5];have J:=hid K;have HL:=hid hl;have HB:=hid hB;have h0:=hid d;have HN:=hid hf;have f5:=hid D;have g7:=hid G;have HT:=hid hT;have i8:=@run_makeMap Tryz.prog;clear K hl hB d hf D hT G L Z W O X e5 I;go_enter Tryz.func7,Tryz.ntmps7;go_wp2_with fail;obtain⟨W,I⟩:=qq (((w.alloc (Obj.cells #[.slice g0 n0 k0,.slice g1 n1 k1,.slice g2 n2 k2,.slice g3 n3 k3,.slice g4 n4 k4,.slice g5 n5 k5] 30)).alloc (Obj.cells #[nI (c 0),nI (c 1),nI (c 2),nI (c 3),nI (c 4),nI (c 5),.slice tz tn tc,nI (c 7),nI (c 8)] 24)).alloc (Obj.cells #[sZ,sZ,sZ] 37));obtain⟨gP,d⟩:=qq (w.heap.size);obtain⟨gC,G⟩:=qq (w.heap.size+1);obtain⟨gR,D⟩:=qq (w.heap.size+1+1);rw[<-I,<-D,<-G,<-d];have a1:Hi (Ok w W):=by rw[I];exact(((Ok.refl w).alloc _).alloc _).alloc _
 have i0:Hi (W.heap[gP]?=some (.cells #[.slice g0 n0 k0,.slice g1 n1 k1,.slice g2 n2 k2,.slice g3 n3 k3,.slice g4 n4 k4,.slice g5 n5 k5] 30 (0,0))):=by rw[I,d];exact jj
 have f9:Hi (W.heap[gC]?=some (.cells #[nI (c 0),nI (c 1),nI (c 2),nI (c 3),nI (c 4),nI (c 5),.slice tz tn tc,nI (c 7),nI (c 8)] 24 (0,0))):=by rw[I,G];exact jj
 have d4:Hi (W.heap[gR]?=some (.cells #[sZ,sZ,sZ] 37 (0,0))):=by rw[I,D];exact jj
 have HG:Hi (w.heap.size<=gR):=by unfold Hi;omega
 clear I d G D;refine mq (J.o W a1.o) λw1 d=>?_;have I:=hid d;obtain⟨p0,X,O,p3,p4,p5,K⟩:=CY (Ok.row' d i0.o);clear d J;go_wp2_with fail;refine(HL.o w1 (a1.o.step I.o)).mono ?_;rintro e w2 ⟨ev,rfl,d,G⟩;obtain⟨eo,ec,rfl⟩:=za0 d;obtain⟨em,D⟩:=qq (es.length);rw[<-D]at d ⊢;have h8:Hi (em=es.length):=D;have L:Hi (w2.ownsRow 0 98 6 (.slice eo em ec) em (edL es)):=za7 d (zL_ _);have Z:=hid (I.o.step G);clear d G D HL p0 X O p3 p4 p5 K
 go_upto_region 5 with (fail)
 obtain⟨X,hX⟩:=qq (w2.alloc (Obj.cells #[.slice g0 n0 k0,.slice g1 n1 k1,.slice g2 n2 k2,.slice g3 n3 k3,.slice g4 n4 k4,.slice g5 n5 k5,nI (N:Nat),nI (x:Nat),.slice eo em ec] 59));obtain⟨gG,K⟩:=qq (w2.heap.size);rw[<-hX,<-K];have d:Hi (Ok w2 X):=by rw[hX];exact(Ok.refl _).alloc _
 have d2:Hi (X.heap[gG]?=some (.cells #[.slice g0 n0 k0,.slice g1 n1 k1,.slice g2 n2 k2,.slice g3 n3 k3,.slice g4 n4 k4,.slice g5 n5 k5,nI (N:Nat),nI (x:Nat),.slice eo em ec] 59 (0,0))):=by rw[hX,K];exact za3 _ _
 have O:=hid (Z.o.step d.o);have g9:=hid (za1 L.o d.o);obtain⟨Y0,G⟩:=qq (X.alloc (.map #[] 0));obtain⟨gm,D⟩:=qq (X.heap.size);have h6:Hi (FQ Y0 gm 0 (λn=>decide (n∈([]:List Int)))):=by unfold Hi;rw[G,D];simpa using FQ.made X
 have f0:Hi (Ok X Y0):=by rw[G];exact(Ok.refl _).alloc _
 have f3:Hi (gm=X.heap.size):=D;clear hX K L Z I d;go_wp2_with fail;rw[<-G,<-D];clear G D
 go_loopg [] kf (λgk wr=>∃d:List Int,Hi (Ok X wr/\FQ wr gm d.length (λn=>decide (n∈d))/\FW cap (c 0) (c 1) es f gk d=some R/\d.length+gk=kf))
 case atStart=>exact⟨[],f0.o,h6.o,f5.o,by simp⟩
 obtain⟨d,I⟩:=hrel
 obtain⟨g,hg⟩:∃g,gk=g+1:=by
  cases gk with
  | zero=>have D:=I.o.2.2.1;unfold FW at D;cases D
  | succ g=>exact⟨g,rfl⟩
 have a4:Hi (gk=g+1):=hg;obtain⟨c0,c1,c2,c3,c4,c5,c6,c7,c8,i1⟩:=CH (Ok.row' (O.o.step I.o.1) f9.o);obtain⟨q0,q1,q2,q3,q4,q5,q6,q7,q8,a6⟩:=CH (Ok.row' I.o.1 d2.o);obtain⟨p,hp⟩:=qq (DR cap (c 0) (c 1) es d);have HP:Hi (p=DR cap (c 0) (c 1) es d):=hp;have K:PB N p:=by rw[hp];exact⟨HB.o.win,HB.o.frm,HB.o.small,HB.o.pos,HB.o.unr⟩
 have G:p.cap=cap:=by rw[hp];rfl
 have b5:p.es=es:=by rw[hp];rfl
 have d5:p.mgd=λn=>decide (n∈d):=by rw[hp];rfl
 obtain⟨b8,d7⟩:=QS.begin wr gm d.length (λi=>(#[.slice g0 n0 k0,.slice g1 n1 k1,.slice g2 n2 k2,.slice g3 n3 k3,.slice g4 n4 k4,.slice g5 n5 k5,nI (N:Nat),nI (x:Nat),.slice eo em ec,nI (c 0),nI (c 1),nI (c 2),nI (c 3),nI (c 4),nI (c 5),.slice tz tn tc,nI (c 7),nI (c 8)]:Array Value).getD i (sZ)) p (by show Value.int .i64 (c 2)=_;rw[h0.o,G]) (by rw[d5];exact I.o.2.1) (λw' i5=>HT.o w' (Below.trans (a1.o.step (O.o.step I.o.1)) (i5.mono (a1.o.step (O.o.step I.o.1)).le))) (by rw[G];exact HB.o.small.2.1)
 go_upto_region 7 with (fail)
 obtain⟨F,L⟩:∃z:FA,z=⟨wr.heap.size+1+1,wr.heap.size,wr.heap.size+1,gm,d.length,wr.heap.size+1+1+1,λi=>(#[.slice g0 n0 k0,.slice g1 n1 k1,.slice g2 n2 k2,.slice g3 n3 k3,.slice g4 n4 k4,.slice g5 n5 k5,nI (N:Nat),nI (x:Nat),.slice eo em ec,nI (c 0),nI (c 1),nI (c 2),nI (c 3),nI (c 4),nI (c 5),.slice tz tn tc,nI (c 7),nI (c 8)]:Array Value).getD i (sZ)⟩:=⟨_,rfl⟩;obtain⟨Z,hZ⟩:=qq (((wr.alloc (.map #[] 0)).alloc (.map #[] 0)).alloc (Obj.cells #[.slice g0 n0 k0,.slice g1 n1 k1,.slice g2 n2 k2,.slice g3 n3 k3,.slice g4 n4 k4,.slice g5 n5 k5,nI (N:Nat),nI (x:Nat),.slice eo em ec,nI (c 0),nI (c 1),nI (c 2),nI (c 3),nI (c 4),nI (c 5),.slice tz tn tc,nI (c 7),nI (c 8),.map (some gm),sZ,sZ,.map (some wr.heap.size),.map (some (wr.heap.size+1))] 67));have d9:Hi (QOk wr F p):=by rw[L];exact b8
 have g6:Hi (QS wr F Z (sZ) (sZ) [] [] [] []):=by rw[L,hZ];exact d7
 have b6:wr.heap.size+1+1=F.gf:=by rw[L]
 have i2:Hi (Calls Tryz.prog 17 #[pA F.gf 0] Z λe w'=>wo0 wr F p f e w'):=yG2 N f c tz tn tc Z g6.o d9.o K (by rw[G];exact HN.o) (by rw[L,b5,<-h8.o];exact za1 g9.o I.o.1) (by rw[L,hp];exact⟨rfl,rfl,rfl,rfl,rfl,rfl,rfl,rfl,rfl,rfl,rfl⟩);have b3:=hid K;have d3:Hi (wr.heap.size<=F.gf/\F.gf<F.B/\wr.heap.size<=F.B):=by unfold Hi;rw[L];exact⟨by show _<=_+1+1;omega,by show _+1+1<_+1+1+1;omega,by show _<=_+1+1+1;omega⟩
 rw[<-hZ,b6];clear L hZ b6 b8 d7 hp K G b5 d5 hg c0 c1 c2 c3 c4 c5 c6 c7 c8 i1 q0 q1 q2 q3 q4 q5 q6 q7 q8 a6;go_wp2_with fail;refine i2.o.mono ?_;rintro e w4 hv;unfold wo0 at hv
 cases L:p.find f with
 | inl n =>
  rw[L]at hv;obtain⟨rfl,G⟩:=hv;obtain⟨f6,b4⟩:=zz5 (p:=p) b3.o.pos b3.o.win L;obtain⟨w5,i6,K,b7⟩:=(I.o.2.1.ok G).put Tryz.underlying62 (x:=n) oM (oH HB.o.small.1) (by have:=g7.o;have:=I.o.2.2.2;unfold maxLen;omega)
  have e5:(λy:Int=>y==n||decide (y∈d))=λy=>decide (y∈n::d):=by
   funext y
   by_cases hy:y=n
   ·simp[hy]
   simp[hy]
  rw[e5]at K;have f1:Hi (Ok X w5):=Ok.grown (I.o.1.step G) b7 (λb e=>by rw[<-aI e];have:=f3.o;omega);have h5:=hid K
  have i3:Hi (FW cap (c 0) (c 1) es f g (n::d)=some R):=by have D:=I.o.2.2.1;rw[a4.o]at D;unfold FW at D;rw[<-HP.o,L]at D;exact D
  have i7:(0:Int)<=n:=b4.1;clear G f6 b4 e5 K b7 L;go_wp2_with fail
  go_roundg g
  case measure=>have:=a4.o;omega
  case rel=>exact⟨n::d,f1.o,h5.o,i3.o,by have h:=I.o.2.2.2;have h2:=a4.o;rw[aR];omega⟩
 | inr r =>
  rw[L]at hv;obtain⟨rfl,vv,lv,G⟩:=hv
  have h7:Hi (R=(d,r.1,r.2)):=by
   have D:=I.o.2.2.1;rw[a4.o]at D;unfold FW at D;rw[<-HP.o,L]at D
   injection D with D
   exact D.symm
  have b9:=hid G;obtain⟨tl,f4,d8,K⟩:=G.vo;obtain⟨vo,vc,rfl⟩:=za0 d8;obtain⟨lo,lc,rfl⟩:=za0 G.lo;have f7:Hi (∀Y,Ok w4 Y->FQ Y gm d.length (λn=>decide (n∈d))):=λY hY=>I.o.2.1.ok (G.ok.step hY);have b2:=hid (I.o.1.step G.ok);clear G f4 d8 K L;go_wp2_with fail;go_loopw [12,13] (λf8 a8 wi=>∃k:Nat,a8=nI (k:Nat)/\k<=N/\Hi (Ok w4 wi/\wi.ownsRow w4.heap.size 3 1 f8 (mgL k d).length (ilL (mgL k d)))) (λ_ a8 _=>((N:Int)-intOf a8).toNat)
  case atStart=>exact⟨0,rfl,zL_ _,Ok.refl _,World.ownsRow_nil _ _ _ _⟩
  obtain⟨k,rfl,hk,J⟩:=hrel;obtain⟨q0,q1,q2,q3,q4,q5,q6,q7,q8,a6⟩:=CH (Ok.row' (b2.o.step J.o.1) d2.o);obtain⟨mo,mc,g8⟩:=za0 J.o.2;subst g8;obtain⟨mn,G⟩:=qq ((mgL k d).length);have a5:Hi (mn=(mgL k d).length/\mn<=k):=⟨G,by rw[G];exact yD3 k d⟩;rw[<-G]at J ⊢;clear G;by_cases a7:k<N
  ·have G:(k:Int)<(N:Int):=za5 a7
   have kw:IntKind.i64.wrap ((k:Int)+1)=((k+1:Nat):Int):=zb3 (oH HB.o.small.1);have d0:=(f7.o wr J.o.1).look Tryz.underlying62 (x:=(k:Int)) oM (oH HB.o.small.1);by_cases hm:(k:Int)∈d
   ·rw[aV hm]at d0
    have K:Hi (mgL (k+1) d=mgL k d++[(k:Int)]):=by unfold Hi;rw[zQ5,aG hm]
    clear hm
    go_wp2_with (first|(at_builtin;refine ze4 rfl _ _ 28 3 1 8 _ rfl Tryz.underlying28 wb7 (by rfl) (by decide) (by decide) w4.heap.size _ mn (ilL (mgL k d)) (by rfl) (World.ownsRow.alloc J.o.2 _) (.slice (sA wr.heap.size 0) 1 1) 1 [nI (k:Nat)] (by rfl) (SL.one wr 3 [nI (k:Nat)] rfl (by simp[Value.oneCell'])) (by have D:=a5.o.2;have:=HB.o.small.1;omega) (by have D:=J.o.1.le;simp;omega) ?_;intro v9 w9 z1 z2;have i4:=hid z1;have f2:Hi (Ok w4 w9):=Ok.grown (J.o.1.alloc _) z2 (λb e=>((World.ownsRow.alloc J.o.2 (Obj.cells #[nI (k:Nat)] 3)).lt b e).1);clear z1 z2)|fail)
    go_roundw
    case rel=>exact⟨k+1,rfl,a7,f2.o,by rw[K.o,aA,aZ,zJ7,<-a5.o.1];exact i4.o⟩
    case measure=>simp only[intOf];omega
   rw[aN hm]at d0;have K:Hi (mgL (k+1) d=mgL k d):=by unfold Hi;rw[zQ5,aC hm,bD]
   clear hm;go_wp2_with fail;go_roundw
   case rel=>exact⟨k+1,rfl,a7,J.o.1,by rw[K.o,<-a5.o.1];exact J.o.2⟩
   case measure=>simp only[intOf];omega
  have G:¬(k:Int)<(N:Int):=oM;have c9:Hi (k=N):=by unfold Hi;omega
  go_upto_region 16 with (fail)
  clear q0 q1 q2 q3 q4 q5 q6 q7 q8 a6 G;have a3:=hid (b9.o.step J.o.1);have b1:=hid (O.o.step (b2.o.step J.o.1));have d1:Hi (wr.heap[gR]?=_):=Ok.row' b1.o d4.o;have b0:Hi (F.gf≠gR/\gR<F.B):=by have D:=za2 d4.o;have h2:=O.o.le;have h3:=I.o.1.le;have h4:=d3.o;unfold Hi;omega
  have a2:Hi (∀Y,wj7 gR wr Y->Y.cell? (aD F.gf 19)=some (.slice vo r.1.length vc)/\Y.cell? (aD F.gf 20)=some (.slice lo r.2.length lc)/\F.gf<Y.heap.size):=λY hY=>by have h:=hY.row b0.o.1 a3.o.row;exact⟨(cell_of_row _ _ 19 _ _ _ h).trans rfl,(cell_of_row _ _ 20 _ _ _ h).trans rfl,za2 h⟩
  have S0:wj7 gR wr wr.drew:=wj7.of (Below.drew (Ok.refl wr));refine zd5 (λY=>wj7 gR wr Y) 11 kR ?_;refine tK 0 (pA F.gf 0) S0 ?_;simp only[pu];refine tL 1 (pA F.gf 0) S0 ?_ ?_
  ·intro w' G;obtain⟨z0,z1,z2⟩:=a2.o w' G;clear G;go_simp;try with_reducible rfl
  simp only[pu];refine tL 2 (pA F.gf 19) S0 ?_ ?_
  ·intro w' G;obtain⟨z0,z1,z2⟩:=a2.o w' G;clear G;go_simp;try with_reducible rfl
  simp only[pu];refine tL 3 (.slice vo r.1.length vc) S0 ?_ ?_
  ·intro w' G;obtain⟨z0,z1,z2⟩:=a2.o w' G;clear G;go_simp;try with_reducible rfl
  simp only[pu];refine tK 4 (pA F.gf 0) S0 ?_;simp only[pu];refine tL 5 (pA F.gf 0) S0 ?_ ?_
  ·intro w' G;obtain⟨z0,z1,z2⟩:=a2.o w' G;clear G;go_simp;try with_reducible rfl
  simp only[pu];refine tL 6 (pA F.gf 20) S0 ?_ ?_
  ·intro w' G;obtain⟨z0,z1,z2⟩:=a2.o w' G;clear G;go_simp;try with_reducible rfl
  simp only[pu];refine tL 7 (.slice lo r.2.length lc) S0 ?_ ?_
  ·intro w' G;obtain⟨z0,z1,z2⟩:=a2.o w' G;clear G;go_simp;try with_reducible rfl
  simp only[pu];refine tK 8 (.slice mo mn mc) S0 ?_;simp only[pu];refine zb0 (i:=9) kR rfl (λK hK=>?_);go_simp;refine hK.out _ _ (λ_=>S0) ?_;clear hK K
  try simp only[pu]
  refine zb0 (i:=10) kR rfl (λK hK=>?_);refine zg9 rfl 37 _ _ rfl gR 37 _ #[.slice vo r.1.length vc,.slice lo r.2.length lc,.slice mo mn mc] (by rfl) (by rfl) (Ok.row' (Below.drew (Ok.refl wr)) d1.o) wb6 rfl (by simp[Value.oneCell']) rfl ?_;refine hK.out _ _ (λ_=>⟨by rw[size_setRow];exact S0.1,λb hb hl=>(setRow_other _ _ _ _ hb).trans (S0.2 b hb hl)⟩) ?_;clear hK K;refine zb0 (i:=11) kR rfl (λK hK=>?_);go_simp;refine hK.out _ _ (λh=>absurd rfl h) ?_;clear hK K;refine zd4 kR ?_ _;go_wp2_with fail;(try simp only[Exit.inBlock,Exit.then]);refine bodyPost_ret (zc0 rfl _ _ gR 37 #[.slice vo r.1.length vc,.slice lo r.2.length lc,.slice mo mn mc] (0,0) _ rfl (setRow_heap _ _ _ _ _ _ (Ok.row' (Below.drew (Ok.refl wr)) d1.o)) Tryz.underlying37 rfl wb6) rfl ?_;have a9:∀b,F.B<=b->(wr.drew.setRow gR #[.slice vo r.1.length vc,.slice lo r.2.length lc,.slice mo mn mc]).heap[b]?=wr.heap[b]?:=λb hb=>setRow_other _ _ _ _ (oH b0.o);have K:w.heap.size<=F.B:=by have D:=a1.o.le;have h2:=O.o.le;have h3:=I.o.1.le;have h4:=d3.o;omega
  have d6:F.B<=w4.heap.size:=b9.o.le;rw[h7.o];refine⟨_,_,_,rfl,(a3.o.vo.far λb hb _=>a9 b hb).base K,za7 (zb4 a3.o.lo λb hb=>a9 b (a3.o.lo.lt b hb).1) K,?_,zd0 (Below.drew (a1.o.step b1.o)) HG.o _⟩;show World.ownsRow _ _ _ _ _ (mgL N d).length (ilL (mgL N d));have h9:=J.o.2;have e9:(mgL N d).length=mn:=by rw[a5.o.1,c9.o]
  rw[c9.o]at h9;rw[e9];exact za7 (zb4 h9 λb hb=>a9 b (aH d6 (h9.lt b hb).1)) (aH K d6)
def yG4(c:Nat->Int)(ts:List Int)(tz:Option Addr)(tc:Nat)(w:World)(h:SL w 1 (.slice tz ts.length tc) ts.length (ilL ts)) :
  Calls Tryz.prog 30 #[.agg #[nI (c 0),nI (c 1),nI (c 2),nI (c 3),nI (c 4),nI (c 5),.slice tz ts.length tc,nI (c 7),nI (c 8)]] w λe w'=>e=.returned (nI (AK c ts))/\Ok w w':=by
 have HM:=hid h;obtain⟨N,d⟩:=qq (ts.length);have X:Hi (N=ts.length):=d;rw[<-d];clear h d;have d:Hi (∀j,j<0->CZ c ts j=true):=λj h=>absurd h (eA j);go_enter Tryz.func30,Tryz.ntmps30;by_cases a0:c 0<0
 ·have D:Hi (AK c ts=190):=zg0 (k:=0) (by decide) d.o (by show(decide (0<=c 0)&&decide (c 0<=3))=false;rw[aN oM];rfl)
  go_wp2_with fail;go_ret;exact⟨by rw[D.o];rfl,(Ok.refl w).alloc _⟩
 by_cases L:3<c 0
 ·have D:Hi (AK c ts=190):=zg0 (k:=0) (by decide) d.o (by show(decide (0<=c 0)&&decide (c 0<=3))=false;rw[aN (show ¬c 0<=3 by omega),cL])
  go_wp2_with fail;go_ret;exact⟨by rw[D.o];rfl,(Ok.refl w).alloc _⟩
 replace d:=hid (zg1 d.o (show(decide (0<=c 0)&&decide (c 0<=3))=true by rw[aV oM,aV oM];rfl));by_cases a1:c 1<0
 ·have D:Hi (AK c ts=191):=zg0 (k:=1) (by decide) d.o (by show(decide (0<=c 1)&&decide (c 1<=3))=false;rw[aN oM];rfl)
  go_wp2_with fail;go_ret;exact⟨by rw[D.o];rfl,(Ok.refl w).alloc _⟩
 by_cases b1:3<c 1
 ·have D:Hi (AK c ts=191):=zg0 (k:=1) (by decide) d.o (by show(decide (0<=c 1)&&decide (c 1<=3))=false;rw[aN (show ¬c 1<=3 by omega),cL])
  go_wp2_with fail;go_ret;exact⟨by rw[D.o];rfl,(Ok.refl w).alloc _⟩
 replace d:=hid (zg1 d.o (show(decide (0<=c 1)&&decide (c 1<=3))=true by rw[aV oM,aV oM];rfl));by_cases Z:c 2<1
 ·have D:Hi (AK c ts=192):=zg0 (k:=2) (by decide) d.o (by show(decide (1<=c 2)&&decide (c 2<=6))=false;rw[aN oM];rfl)
  go_wp2_with fail;go_ret;exact⟨by rw[D.o];rfl,(Ok.refl w).alloc _⟩
 by_cases O:6<c 2
 ·have D:Hi (AK c ts=192):=zg0 (k:=2) (by decide) d.o (by show(decide (1<=c 2)&&decide (c 2<=6))=false;rw[aN (show ¬c 2<=6 by omega),cL])
  go_wp2_with fail;go_ret;exact⟨by rw[D.o];rfl,(Ok.refl w).alloc _⟩
 replace d:=hid (zg1 d.o (show(decide (1<=c 2)&&decide (c 2<=6))=true by rw[aV oM,aV oM];rfl));by_cases a3:c 3<0
 ·have D:Hi (AK c ts=193):=zg0 (k:=3) (by decide) d.o (by show(decide (0<=c 3)&&decide (c 3<=6))=false;rw[aN oM];rfl)
  go_wp2_with fail;go_ret;exact⟨by rw[D.o];rfl,(Ok.refl w).alloc _⟩
 by_cases b3:6<c 3
 ·have D:Hi (AK c ts=193):=zg0 (k:=3) (by decide) d.o (by show(decide (0<=c 3)&&decide (c 3<=6))=false;rw[aN (show ¬c 3<=6 by omega),cL])
  go_wp2_with fail;go_ret;exact⟨by rw[D.o];rfl,(Ok.refl w).alloc _⟩
 replace d:=hid (zg1 d.o (show(decide (0<=c 3)&&decide (c 3<=6))=true by rw[aV oM,aV oM];rfl));by_cases a4:c 4<0
 ·have D:Hi (AK c ts=194):=zg0 (k:=4) (by decide) d.o (by show(decide (0<=c 4)&&decide (c 4<=3))=false;rw[aN oM];rfl)
  go_wp2_with fail;go_ret;exact⟨by rw[D.o];rfl,(Ok.refl w).alloc _⟩
 by_cases J:3<c 4
 ·have D:Hi (AK c ts=194):=zg0 (k:=4) (by decide) d.o (by show(decide (0<=c 4)&&decide (c 4<=3))=false;rw[aN (show ¬c 4<=3 by omega),cL])
  go_wp2_with fail;go_ret;exact⟨by rw[D.o];rfl,(Ok.refl w).alloc _⟩
 replace d:=hid (zg1 d.o (show(decide (0<=c 4)&&decide (c 4<=3))=true by rw[aV oM,aV oM];rfl));by_cases K:c 5<0
 ·have D:Hi (AK c ts=195):=zg0 (k:=5) (by decide) d.o (by show(decide (0<=c 5)&&decide (c 5<=3))=false;rw[aN oM];rfl)
  go_wp2_with fail;go_ret;exact⟨by rw[D.o];rfl,(Ok.refl w).alloc _⟩
 by_cases Y:3<c 5
 ·have D:Hi (AK c ts=195):=zg0 (k:=5) (by decide) d.o (by show(decide (0<=c 5)&&decide (c 5<=3))=false;rw[aN (show ¬c 5<=3 by omega),cL])
  go_wp2_with fail;go_ret;exact⟨by rw[D.o];rfl,(Ok.refl w).alloc _⟩
 replace d:=hid (zg1 d.o (show(decide (0<=c 5)&&decide (c 5<=3))=true by rw[aV oM,aV oM];rfl));by_cases a6:(6:Int)<(N:Int)
 ·have D:Hi (AK c ts=196):=zg0 (k:=6) (by decide) d.o (by show(decide (ts.length<=6)&&CW ts)=false;rw[aN (oH X.o)];rfl)
  go_wp2_with fail;go_ret;exact⟨by rw[D.o];rfl,(Ok.refl w).alloc _⟩
 have R:Hi (N<=6):=by unfold Hi;omega
 go_upto_region 15 with (fail)
 obtain⟨W,I⟩:=qq (w.alloc (Obj.cells #[nI (c 0),nI (c 1),nI (c 2),nI (c 3),nI (c 4),nI (c 5),.slice tz N tc,nI (c 7),nI (c 8)] 24));obtain⟨gC,o⟩:=qq (w.heap.size);rw[<-I,<-o];have G:Hi (Ok w W):=by rw[I];exact(Ok.refl w).alloc _
 have HC:Hi (W.heap[gC]?=some (.cells #[nI (c 0),nI (c 1),nI (c 2),nI (c 3),nI (c 4),nI (c 5),.slice tz N tc,nI (c 7),nI (c 8)] 24 (0,0))):=by rw[I,o];exact za3 _ _
 clear I o a0 L a1 b1 Z O a3 b3 a4 J K Y a6;go_wp2_with fail;go_loopw [3] (λt3 wr=>∃k:Nat,t3=nI ((k+1:Nat):Int)/\Hi (Ok W wr/\CW ts=CW (ts.drop k)/\(k=0\/k<N))) (λt3 _=>((N:Int)-intOf t3).toNat)
 case atStart=>exact⟨0,rfl,Ok.refl _,rfl,Or.inl rfl⟩
 obtain⟨k,rfl,I⟩:=hrel;obtain⟨i,o⟩:=qq (k+1);have O:Hi (i=k+1):=o;rw[<-o];clear o;obtain⟨p0,p1,p2,p3,p4,p5,p6,p7,p8,b6⟩:=CH (Ok.row' I.o.1 HC.o);by_cases L:i<N
 ·obtain⟨b,o,c',e1,Y,e3⟩:=HM.o.at (k:=i) (by decide) (by rw[<-X.o];exact L)
  injection e1 with e4 e5 e6
  subst e4 e6;clear e5;obtain⟨x,Z⟩:∃x,ts[k]?=some x:=⟨_,gG_ (oK O.o X.o)⟩;obtain⟨y,hy⟩:∃y,ts[k+1]?=some y:=⟨_,gG_ (oK O.o X.o)⟩;have J:=G.o.step I.o.1;have r0:wr.cell? ⟨b,o+i,none⟩=some (nI y):=J.cell (p:=⟨b,o+i,none⟩) Y (e3 i _ (by rw[O.o];unfold ilL;rw[aX,hy];rfl));have r1:wr.cell? ⟨b,o+k,none⟩=some (nI x):=J.cell (p:=⟨b,o+k,none⟩) Y (e3 k _ (by unfold ilL;rw[aX,Z];rfl));have K:Hi (ts[k]?=some x/\ts[k+1]?=some y):=⟨Z,hy⟩;have lb:b<wr.heap.size:=lL_ Y J.le;have a9:(i:Int)<(N:Int):=za5 L;have kw:IntKind.i64.wrap ((i:Int)+1)=((i+1:Nat):Int):=zb3 (oH R.o);have km:IntKind.i64.wrap ((i:Int)-1)=((k:Nat):Int):=zd3 (by have h1:=O.o;omega) (oK R.o O.o);have b9:(k:Int)<(N:Int):=by have h1:=O.o;omega
  clear Y e3 Z hy J;by_cases J:y<=x
  ·have HD:Hi (AK c ts=196):=zg0 (k:=6) (by decide) d.o (by show(decide (ts.length<=6)&&CW ts)=false;rw[I.o.2.1,zt7 K.o.1 K.o.2,aN (show ¬x<y by omega),dY,cL])
   go_upto_region 18 with (fail)
   go_quiet (fail);go_wp2_with fail;go_ret;exact⟨by rw[HD.o];rfl,(G.o.step I.o.1).draws _⟩
  have HD:Hi (CW ts=CW (ts.drop i)):=by unfold Hi;rw[I.o.2.1,zt7 K.o.1 K.o.2,aV oM,fU,O.o]
  go_upto_region 18 with (fail)
  go_quiet (fail);go_wp2_with fail;exact⟨⟨i,rfl,I.o.1.draws _,HD.o,Or.inr L⟩,by show((N:Int)-((i:Int)+1)).toNat<((N:Int)-(i:Int)).toNat;omega⟩
 have a9:¬(i:Int)<(N:Int):=zb2 L;replace d:=hid (zg1 d.o (show(decide (ts.length<=6)&&CW ts)=true by rw[aV (oK X.o R.o),I.o.2.1,zU8 (oK O.o X.o)];rfl));by_cases J:c 7<0
 ·have D:Hi (AK c ts=197):=zg0 (k:=7) (by decide) d.o (by show(decide (0<=c 7)&&decide (c 7<=5000))=false;rw[aN oM];rfl)
  go_wp2_with fail;go_ret;exact⟨by rw[D.o];rfl,G.o.step I.o.1⟩
 by_cases o:5000<c 7
 ·have D:Hi (AK c ts=197):=zg0 (k:=7) (by decide) d.o (by show(decide (0<=c 7)&&decide (c 7<=5000))=false;rw[aN (show ¬c 7<=5000 by omega),cL])
  go_wp2_with fail;go_ret;exact⟨by rw[D.o];rfl,G.o.step I.o.1⟩
 replace d:=hid (zg1 d.o (show(decide (0<=c 7)&&decide (c 7<=5000))=true by rw[aV oM,aV oM];rfl));by_cases K:c 8<0
 ·have D:Hi (AK c ts=198):=zg0 (k:=8) (by decide) d.o (by show(decide (0<=c 8)&&decide (c 8<=4))=false;rw[aN oM];rfl)
  go_wp2_with fail;go_ret;exact⟨by rw[D.o];rfl,G.o.step I.o.1⟩
 by_cases Y:4<c 8
 ·have D:Hi (AK c ts=198):=zg0 (k:=8) (by decide) d.o (by show(decide (0<=c 8)&&decide (c 8<=4))=false;rw[aN (show ¬c 8<=4 by omega),cL])
  go_wp2_with fail;go_ret;exact⟨by rw[D.o];rfl,G.o.step I.o.1⟩
 replace d:=hid (zg1 d.o (show(decide (0<=c 8)&&decide (c 8<=4))=true by rw[aV oM,aV oM];rfl));have HD:=hid (yd8 d.o);go_wp2_with fail;go_ret;exact⟨by rw[HD.o];rfl,G.o.step I.o.1⟩
def yF9(v:Nat->Value)(c:Nat->Int)(ts:List Int)(tz:Option Addr)(tc:Nat)(b:Bool)(w:World)(D:∀i,i<6->∃ao n c,v i=.slice ao n c)(d:SL w 1 (.slice tz ts.length tc) ts.length (ilL ts))
  (W:∀Y,Ok w Y->Calls Tryz.prog 29 #[.agg #[v 0,v 1,v 2,v 3,v 4,v 5]] Y λe w'=>e=.returned (.bool b)/\Ok Y w') :
  Calls Tryz.prog 15 #[.agg #[v 0,v 1,v 2,v 3,v 4,v 5],.agg #[nI (c 0),nI (c 1),nI (c 2),nI (c 3),nI (c 4),nI (c 5),.slice tz ts.length tc,nI (c 7),nI (c 8)]] w λe w'=>e=.returned (nI (if b=true then AK c ts else 2))/\Ok w w':=by
 obtain⟨g0,n0,k0,g1,n1,k1,g2,n2,k2,g3,n3,k3,g4,n4,k4,g5,n5,k5,O,X,K,J,L,R⟩:=DV D;rw[O,X,K,J,L,R]at W;rw[O,X,K,J,L,R];have Z:=hid W;have a1:=hid d;have I:Hi (∀Y,Ok w Y->Calls Tryz.prog 30 #[.agg #[nI (c 0),nI (c 1),nI (c 2),nI (c 3),nI (c 4),nI (c 5),.slice tz ts.length tc,nI (c 7),nI (c 8)]] Y λe w'=>e=.returned (nI (AK c ts))/\Ok Y w'):=λY hY=>yG4 c ts tz tc Y (d.below hY);obtain⟨tn,G⟩:=qq (ts.length);rw[<-G]at I ⊢;clear W d O X K J L R D G;go_enter Tryz.func15,Tryz.ntmps15;go_wp2_with fail;refine mq (Z.o _ (((Ok.refl w).alloc _).alloc _)) λK d=>?_;have D:Hi (Ok w K):=(((Ok.refl w).alloc _).alloc _).step d;have J:Hi (K.heap[w.heap.size+1]?=some (.cells #[nI (c 0),nI (c 1),nI (c 2),nI (c 3),nI (c 4),nI (c 5),.slice tz tn tc,nI (c 7),nI (c 8)] 24 (0,0))):=Ok.row' d jj;obtain⟨c0,c1,X,R,c4,c5,W,O,c8,L⟩:=CH J.o;clear d Z
 cases b with
 | false =>
  go_wp2_with fail;go_ret;exact⟨rfl,D.o⟩
 | true =>
  go_wp2_with fail;refine mq (I.o K D.o) λZ d=>?_;have G:=hid (D.o.step d);clear d;go_wp2_with fail;go_ret;exact⟨rfl,G.o⟩
def yG5(v:Nat->Value)(c:Nat->Int)(tz:Option Addr)(X tc:Nat)(r:Int)(D:r≠0)(w:World)(d:∀i,i<6->∃ao n c,v i=.slice ao n c)
  (K:∀Y,Ok w Y->Calls Tryz.prog 15 #[.agg #[v 0,v 1,v 2,v 3,v 4,v 5],.agg #[nI (c 0),nI (c 1),nI (c 2),nI (c 3),nI (c 4),nI (c 5),.slice tz X tc,nI (c 7),nI (c 8)]] Y λe w'=>e=.returned (nI r)/\Ok Y w') :
  Calls Tryz.prog 7 #[.agg #[v 0,v 1,v 2,v 3,v 4,v 5],.agg #[nI (c 0),nI (c 1),nI (c 2),nI (c 3),nI (c 4),nI (c 5),.slice tz X tc,nI (c 7),nI (c 8)]] w λe w'=>e=.returned (.tuple #[.agg #[sZ,sZ,sZ],nI r])/\Ok w w':=by
 obtain⟨g0,n0,k0,g1,n1,k1,g2,n2,k2,g3,n3,k3,g4,n4,k4,g5,n5,k5,L,R,I,G,J,O⟩:=DV d;rw[L,R,I,G,J,O]at K;rw[L,R,I,G,J,O];have W:=hid K;have Z:(r != 0)=true:=dO.2 D;clear K L R I G J O d D;go_enter Tryz.func7,Tryz.ntmps7;go_wp2_with fail;refine mq (W.o _ ((((Ok.refl w).alloc _).alloc _).alloc _)) λK G=>?_;have I:Hi (Ok w K):=((((Ok.refl w).alloc _).alloc _).alloc _).step G;obtain⟨J,d⟩:=qq (w.heap.size+1+1);have D:Hi (K.heap[J]?=some (.cells #[sZ,sZ,sZ] 37 (0,0))):=Ok.row' G (by rw[d];exact jj);have L:Hi (w.heap.size<=J):=by unfold Hi;omega
 rw[<-d];obtain⟨O,d1,R,d3,d4,d5⟩:=za9 D.o;have ld:=za2 D.o;clear G d W;go_wp2_with fail;(try simp only[Exit.inBlock,Exit.then]);refine bodyPost_ret (zc0 rfl _ _ J 37 #[_,_,_] (0,0) _ rfl (zd9 D.o _ _ _) Tryz.underlying37 rfl wb6) rfl ?_;exact⟨rfl,I.o.set3 L.o _ _ _⟩
end Go.Proofs.YthoegkcpmgalbaaGreatDoor
