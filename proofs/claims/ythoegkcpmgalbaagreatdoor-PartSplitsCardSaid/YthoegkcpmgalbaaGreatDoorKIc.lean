import Derived.Test.YthoegkcpmgalbaaGreatDoorKHc
set_option maxHeartbeats 8000000
set_option linter.all false
set_option maxRecDepth 100000
namespace Go.Proofs.YthoegkcpmgalbaaGreatDoor
open Go.RowKit Go.Maps
variable{B N cap gg k:Nat}{H U:Int}{a:Nat->Value}{c:Nat->Int}{es:List Ed}{mg ts:List Int}{w:World}
def zQ5(k:Nat)(mg:List Int):mgL (k+1) mg=mgL k mg++if (k:Int)∈mg then [(k:Int)] else []:=by
 unfold mgL;rw[fE,dB,fI]
 congr 1
 by_cases h:(k:Int)∈mg<;>simp[h]
def yD3(k:Nat)(mg:List Int):(mgL k mg).length<=k:=by unfold mgL;have:=eP (λn:Int=>decide (n∈mg)) ((List.range k).map λk:Nat=>(k:Int));simpa using this
def zU7(a:Nat->Value)(N cap:Nat)(H U:Int)(es:List Ed)(mg:List Int)(w:World)(h:SL w 1 (a 12) N (mgB N (DR cap H U es mg)))(o:N<=1000) :
  Calls Tryz.prog 41 #[.agg #[a 0,a 1,a 2,a 3,a 4,a 5,a 6,a 7,a 8,a 9,a 10,a 11,a 12]] w λe w'=>∃mv,e=.returned mv/\w'.ownsRow w.heap.size 3 1 mv (mgL N mg).length (ilL (mgL N mg))/\Ok w w':=by
 have HM:=hid h;have HN:=hid o;obtain⟨_,_,mo,mc,d,_⟩:=h;have K:=hid d;rw[d];clear d o;go_enter Tryz.func41,Tryz.ntmps41;go_wp2_with fail;obtain⟨W,d⟩:=qq (w.alloc (Obj.cells #[a 0,a 1,a 2,a 3,a 4,a 5,a 6,a 7,a 8,a 9,a 10,a 11,.slice mo N mc] 111));rw[<-d];have J:Hi (Ok w W):=by rw[d];exact(Ok.refl w).alloc _
 clear d;go_loopw [3,9] (λt3 O wr=>∃k:Nat,O=nI (k:Nat)/\k<=N/\Hi (Ok W wr/\wr.ownsRow W.heap.size 3 1 t3 (mgL k mg).length (ilL (mgL k mg)))) (λ_ O _=>((N:Int)-intOf O).toNat)
 case atStart=>exact⟨0,rfl,zL_ _,Ok.refl _,World.ownsRow_nil _ _ _ _⟩
 obtain⟨k,rfl,hk,D⟩:=hrel;by_cases d:k<N
 ·obtain⟨b,o,c,e1,G,I⟩:=HM.o.at dC d
  rw[K.o]at e1
  injection e1 with e4 e5 e6
  subst e4 e6;clear e5;have Z:wr.cell? ⟨b,o+k,none⟩=some (.bool (decide ((k:Int)∈mg))):=(J.o.step D.o.1).cell (p:=⟨b,o+k,none⟩) G (I k _ (by unfold mgB DR;rw[aX,cF d];rfl));have lb:b<wr.heap.size:=lL_ G (J.o.step D.o.1).le;have X:(k:Int)<(N:Int):=za5 d;have kw:IntKind.i64.wrap ((k:Int)+1)=((k+1:Nat):Int):=zb3 (oH HN.o);clear G I;by_cases G:(k:Int)∈mg
  ·rw[aV G]at Z
   have R:Hi (mgL (k+1) mg=mgL k mg++[(k:Int)]):=by unfold Hi;rw[zQ5,aG G]
   clear G
   go_wp2_with (first|(at_builtin;refine ze4 rfl _ _ 28 3 1 8 _ rfl Tryz.underlying28 wb7 (by rfl) (by decide) (by decide) W.heap.size _ (mgL k mg).length (ilL (mgL k mg)) (by rfl) (World.ownsRow.alloc D.o.2 _) (.slice (sA wr.heap.size 0) 1 1) 1 [nI (k:Nat)] (by rfl) (SL.one wr 3 [nI (k:Nat)] rfl (by simp[Value.oneCell'])) (by have I:=yD3 k mg;have h2:=HN.o;omega) (by have I:=D.o.1.le;simp;omega) ?_;intro v9 w9 k1 k2;have L:Hi (w9.ownsRow W.heap.size 3 1 v9 (mgL (k+1) mg).length (ilL (mgL (k+1) mg))):=(by rw[R.o,aA,aZ,zJ7];exact k1);have Y:Hi (Ok W w9):=(D.o.1.alloc _).grown k2 (λb e=>(D.o.2.lt b e).1);clear k1 k2)|fail)
   exact⟨⟨k+1,rfl,d,Y.o,L.o⟩,by show((N:Int)-((k:Int)+1)).toNat<((N:Int)-(k:Int)).toNat;omega⟩
  rw[aN G]at Z;have R:Hi (mgL (k+1) mg=mgL k mg):=by unfold Hi;rw[zQ5,aC G,bD]
  clear G;go_wp2_with fail;exact⟨⟨k+1,rfl,d,D.o.1,by rw[R.o];exact D.o.2⟩,by show((N:Int)-((k:Int)+1)).toNat<((N:Int)-(k:Int)).toNat;omega⟩
 have X:¬(k:Int)<(N:Int):=zb2 d;have o:Hi (k=N):=by unfold Hi;omega
 go_wp2_with fail;go_ret;refine⟨_,rfl,?_,J.o.step D.o.1⟩;have I:=D.o.2;rw[o.o]at I;exact za7 I J.o.le
def PO.ok{w':World}(h:PO w B a N gg H U cap es mg)(d:Ok w w'):PO w' B a N gg H U cap es mg:=by obtain⟨R,O,L⟩:=h.steps;obtain⟨G,W,I⟩:=h.outs;exact⟨h.nodes,h.sls,h.exi,za1 h.edges d,h.capv,⟨R,za1 O d,λi e J=>by obtain⟨v,D,o⟩:=L i e J;exact⟨v,D,o.ok d⟩⟩,⟨G,za1 W d,λn K=>by obtain⟨v,D,o⟩:=I n K;exact⟨v,D,za1 o d⟩⟩,h.mrg.1,za1 h.mrg.2 d⟩
def PO.mark(h:PO w B a N gg H U cap es mg){n:Nat}(hn:n<N):PO (w.setCell (aD gg n) (.bool true)) B a N gg H U cap es ((n:Int)::mg):=by
 obtain⟨W,J,R⟩:=h.steps;obtain⟨L,K,Z⟩:=h.outs;obtain⟨cg,fg,d⟩:=zf9 h.mrg.2 gg rfl;refine⟨h.nodes,h.sls,h.exi,zc7 h.edges (zb6 h.edges d dC) _,h.capv,⟨W,zc7 J (zb6 J d dC) _,λi e O=>?_⟩,⟨L,zc7 K (zb6 K d dC) _,λm X=>?_⟩,h.mrg.1,?_⟩
 ·obtain⟨v,I,D⟩:=R i e O
  refine⟨v,I,D.far λb hb ⟨c,f,o⟩=>Below.heap_setCell _ _ _ _ (λY=>?_)⟩;have G:b=gg:=Y;rw[G,d]at o
  injection o with o
  injection o with _ o
  exact absurd o dC
 ·obtain⟨v,I,D⟩:=Z m X
  exact⟨v,I,zc7 D (zb6 D d dC) _⟩
 have e:mgB N (DR cap H U es ((n:Int)::mg))=(mgB N (DR cap H U es mg)).set n (.bool true):=by
  have o:∀m,(mgB N (DR cap H U es m)).length=N:=λm=>by unfold mgB;simp
  apply eD;intro i;rw[List.getElem?_set];by_cases G:i<N
  ·by_cases c:n=i
   ·subst c
    rw[aG rfl,aG (by rw[o];exact G)];unfold mgB DR;rw[aX,cF G];simp
   rw[aC c];unfold mgB DR;rw[aX,aX,cF G];have:¬(i:Int)=(n:Int):=oM;simp[this]
  rw[aS (by rw[o];omega)]
  split
  ·rw[aC (by rw[o];omega)]
  rw[aS (by rw[o];omega)]
 rw[e];exact zA1 h.mrg.2 _ oM
def PO.ones(h:PO w B a N gg H U cap es mg):(#[a 0,a 1,a 2,a 3,a 4,a 5,a 6,a 7,a 8,a 9,a 10,a 11,a 12]:Array Value).all (·.oneCell')=true:=by obtain⟨sv,G,h2⟩:=h.steps;obtain⟨Y,X,Z⟩:=h.outs;obtain⟨_,_,_,L⟩:=h.sls 0 oM;obtain⟨_,_,_,K⟩:=h.sls 1 oM;obtain⟨_,_,_,D⟩:=h.sls 2 oM;obtain⟨_,_,_,O⟩:=h.sls 3 oM;obtain⟨_,_,_,I⟩:=h.sls 4 oM;obtain⟨_,_,_,R⟩:=h.sls 5 oM;obtain⟨_,J⟩:=h.exi;obtain⟨_,_,W⟩:=za0 h.edges;obtain⟨_,_,d⟩:=za0 G;obtain⟨_,_,o⟩:=za0 X;rw[L,K,D,O,I,R,J,W,d,o,h.nodes,h.capv,h.mrg.1];simp[Value.oneCell']
def ws8{g:Nat}{a0 d o:Value}{t:TypeId}(h:w.heap[g]?=some (.cells #[a0,d,o] t (0,0))):w.cell? (aD g 0)=some a0/\w.cell? (aD g 1)=some d/\w.cell? (aD g 2)=some o/\w.frozen? (aD g 0)=false/\w.frozen? (aD g 1)=false/\w.frozen? (aD g 2)=false/\g<w.heap.size:=by refine⟨?_,?_,?_,frozen_of_row _ _ _ _ _ h,frozen_of_row _ _ _ _ _ h,frozen_of_row _ _ _ _ _ h,za2 h⟩<;>simp[World.cell?,h]
def wp3(w:World)(N:Nat)(R:List Int×List Vx×List Lk)(e:Ending)(w':World):Prop:=∃(vv lv mv:Value),e=.returned (.agg #[vv,lv,mv])/\DJ w' w.heap.size vv R.2.1/\w'.ownsRow w.heap.size 78 3 lv R.2.2.length (lkL R.2.2)/\w'.ownsRow w.heap.size 3 1 mv (mgL N R.1).length (ilL (mgL N R.1))/\FE w' vv R.2.1 (mv,sZ)/\Ok w w'
def EH.base{B':Nat}{o:Value}{D:List Vx}(h:EH w B o D)(d:B'<=B):EH w B' o D:=by obtain⟨G,K,J,O⟩:=h;exact⟨G,K,za7 J d,λi v x L I=>(O i v x L I).base d⟩
structure SI(W:World)(gP B:Nat)(b:Nat->Value)(N gg:Nat)(H U:Int)(cap:Nat)(es:List Ed)(R:List Int×List Vx×List Lk)(gk:Nat)(mg:List Int)(wr:World):Prop where
 ok:Ok W wr
 row:wr.heap[gP]?=some (.cells #[b 0,b 1,b 2,b 3,b 4,b 5,b 6,b 7,b 8,b 9,b 10,b 11,b 12] 111 (0,0))
 po:PO wr B b N gg H U cap es mg
 run:FW cap H U es (N*cap+1) gk mg=some R
 bg:W.heap.size<=gg
def yc8(a:Nat->Value)(N cap:Nat)(H U c3 c4 c5 c7 a6:Int)(tz:Option Addr)(tn tc:Nat)(es:List Ed)(R:List Int×List Vx×List Lk)(w:World)(K:a 6=nI (N:Nat))(O:∀ i,i<6->∃ ao n c,a i=.slice ao n c)(hx:∃ x,a 7=nI x)(W:w.ownsRow 0 98 6 (a 8) es.length (edL es))(hb:N<=1000/\cap<=10/\es.length<=5000)(D:∀ e∈es,0<=e.from'/\e.from'<(N:Int))(d:FO N es)(J:0<cap)(I:0<=U/\U<=1000)(L:FW cap H U es (N*cap+1) (N+1) []=some R)(X:Lib.TabBelow Tryz.prog w.heap.size w "internal/strconv.uint64pow10" .u64 Lib.pow10Tab) :
  Calls Tryz.prog 19 #[.agg #[a 0,a 1,a 2,a 3,a 4,a 5,a 6,a 7,a 8],.agg #[nI H,nI U,nI (cap:Nat),nI c3,nI c4,nI c5,.slice tz tn tc,nI c7,nI a6]] w λe w'=>wp3 w N R e w':=by
 have d0:Hi (∀mg,PB N (DR cap H U es mg)):=λmg=>⟨d,D,hb,J,I⟩;have d9:=hid L;have HB:=hid hb;have c9:=hid X;have G:Hi (∀Y,Ok w Y->Calls Tryz.prog 39 #[.agg #[a 0,a 1,a 2,a 3,a 4,a 5,a 6,a 7,a 8],.agg #[nI H,nI U,nI (cap:Nat),nI c3,nI c4,nI c5,.slice tz tn tc,nI c7,nI a6]] Y λe w'=>wr5 Y N H U cap es e w'):=λY hY=>zK3 a N cap H U c3 c4 c5 c7 a6 tz tn tc es Y K O hx (za1 W hY) ⟨hb.1,hb.2.2⟩ D;have a5:Hi (FO N es/\0<cap/\U<=1000):=⟨d,J,I.2⟩;clear K O hx W hb D d J I L X;go_enter Tryz.func19,Tryz.ntmps19;go_wp2_with fail;obtain⟨W0,d⟩:=qq (((w.alloc (Obj.cells #[a 0,a 1,a 2,a 3,a 4,a 5,a 6,a 7,a 8] 59)).alloc (Obj.cells #[nI H,nI U,nI (cap:Nat),nI c3,nI c4,nI c5,.slice tz tn tc,nI c7,nI a6] 24)).alloc (Obj.cells #[sZ,sZ,sZ] 37));obtain⟨gR,D⟩:=qq (w.heap.size+1+1);rw[<-d,<-D];have K:Hi (Ok w W0):=by rw[d];exact(((Ok.refl w).alloc _).alloc _).alloc _
 have a9:Hi (W0.heap[gR]?=some (.cells #[sZ,sZ,sZ] 37 (0,0))):=by rw[d,D];exact jj
 have HG:Hi (w.heap.size<=gR):=by unfold Hi;omega
 clear d D;refine(G.o W0 K.o).mono ?_;rintro e w1 hv;unfold wr5 at hv;obtain⟨b,gg,rfl,d,D⟩:=hv;have c8:=hid d;have b3:=hid D;have d4:=hid d.ones;clear d D
 go_wp2_with (first|(refine za8 rfl 111 _ _ rfl w1.heap.size 111 #[sZ,sZ,sZ,sZ,sZ,sZ,nI 0,nI 0,sZ,nI 0,sZ,sZ,sZ] #[b 0,b 1,b 2,b 3,b 4,b 5,b 6,b 7,b 8,b 9,b 10,b 11,b 12] (by rfl) (by rfl) (za3 _ _) wl4 rfl d4.o ?_)|fail)
 obtain⟨W,J⟩:=qq ((w1.alloc (Obj.cells #[sZ,sZ,sZ,sZ,sZ,sZ,nI 0,nI 0,sZ,nI 0,sZ,sZ,sZ] 111)).setRow w1.heap.size #[b 0,b 1,b 2,b 3,b 4,b 5,b 6,b 7,b 8,b 9,b 10,b 11,b 12]);obtain⟨gP,D⟩:=qq (w1.heap.size);rw[<-J,<-D];have b8:Hi (Ok w1 W):=by rw[J];exact zd0 ((Ok.refl w1).alloc _) (aK _) _
 have HK:=hid ((K.o.step b3.o).step b8.o);have I:Hi (SI W0 gP W0.heap.size b N gg H U cap es R (N+1) [] W):=⟨b3.o.step b8.o,by rw[J,D];exact setRow_heap _ _ _ _ _ _ (za3 _ _),c8.o.ok b8.o,d9.o,(c8.o.mrg.2.lt gg rfl).1⟩;have c6:Hi (W0.heap.size<=gP/\gR<W0.heap.size):=by have d:=b3.o.le;have h2:=za2 a9.o;unfold Hi;omega
 clear J D G
 go_frame
 go_loopg [] (N+1) (λgk wr=>∃mg,Hi (SI W0 gP W0.heap.size b N gg H U cap es R gk mg wr))
 case atStart=>exact⟨[],I⟩
 obtain⟨mg,G⟩:=hrel
 obtain⟨g,D⟩:∃g,gk=g+1:=by
  cases gk with
  | zero=>have d:=G.o.run;unfold FW at d;cases d
  | succ g=>exact⟨g,rfl⟩
 have b7:Hi (gk=g+1):=D;clear D I;obtain⟨p0,p1,p2,p3,p4,p5,p6,p7,p8,p9,a8,a7,a1,a4⟩:=wd0 G.o.row;have b6:Hi (Calls Tryz.prog 40 #[.agg #[b 0,b 1,b 2,b 3,b 4,b 5,b 6,b 7,b 8,b 9,b 10,b 11,b 12]] wr λe w'=>wn1 wr (DR cap H U es mg) (N*cap+1) e w'):=zK1 b N (DR cap H U es mg) (N*cap+1) wr (G.o.po.pi a5.o.2.2) (d0.o mg) (hO _) (λw' f0=>c9.o w' (Below.trans (K.o.step G.o.ok) (f0.mono (K.o.step G.o.ok).le)));go_wp2_with fail;refine b6.o.mono ?_;rintro e X hv;unfold wn1 at hv
 cases O:(DR cap H U es mg).find (N*cap+1) with
 | inl n =>
  rw[O]at hv;obtain⟨rfl,D⟩:=hv;obtain⟨h3,h4,L⟩:=zz5 (p:=DR cap H U es mg) a5.o.2.1 a5.o.1 O;obtain⟨k,hk⟩:∃k:Nat,n=(k:Int):=⟨n.toNat,oM⟩;subst hk;have I:Hi (k<N):=by unfold Hi;omega
  have b4:Hi (FW cap H U es (N*cap+1) g ((k:Int)::mg)=some R):=by have d:=G.o.run;rw[b7.o]at d;unfold FW at d;rw[O]at d;exact d
  have Z:=hid D;have J:Hi _:=G.o.po.ok D;have a3:Hi _:=Ok.row' D G.o.row;clear h3 h4 L D O p0 p1 p2 p3 p4 p5 p6 p7 p8 p9 a8 a7 a1 a4 b6;obtain⟨p0,p1,p2,p3,p4,p5,p6,p7,p8,p9,a8,a7,a1,a4⟩:=wd0 a3.o;rw[J.o.mrg.1]at a1;obtain⟨cg,fg,L⟩:=zf9 J.o.mrg.2 gg rfl;have m0:X.cell? (aD gg k)=some (.bool (decide ((k:Int)∈mg))):=by have d:=J.o.mrg.2.cells (g:=gg) rfl k _ (show(mgB N (DR cap H U es mg))[k]?=some (.bool (decide ((k:Int)∈mg))) by unfold mgB DR;rw[aX,cF I.o];rfl);rw[zb7,aL]at d;exact d
  have m1:X.frozen? (aD gg k)=false:=by
   rcases J.o.mrg.2.2 with ⟨e1,_⟩ | ⟨g',cp,f1,e1,_,c1,_⟩
   ·cases e1
   injection e1 with e5 _ _
   injection e5 with e5
   injection e5 with e5
   rw[<-e5]at c1;exact frozen_of_row _ _ _ _ _ c1
  have f4:gg<X.heap.size:=(J.o.mrg.2.lt gg rfl).2;have f5:(k:Int)<(N:Int):=oH I.o
  have f6:¬(k:Int)<0:=oM
  have d7:Hi (gP≠gg):=by
   unfold Hi;intro e9;have d:=a3.o;rw[e9,L]at d
   injection d with d
   injection d with _ d
   exact absurd d dC
  clear L;go_wp2_with fail
  go_roundg g
  case measure=>have:=b7.o;omega
  case rel=>exact⟨(k:Int)::mg,⟨((G.o.ok.step Z.o).set G.o.bg _).alloc _,Ok.row' ((Ok.refl _).alloc _) (zk3 a3.o d7.o _),(J.o.mark I.o).ok ((Ok.refl _).alloc _),b4.o,G.o.bg⟩⟩
 | inr r =>
  rw[O]at hv;obtain⟨vv,lv,B,rfl,c2,I,hB,D⟩:=hv;have b4:Hi (R=(mg,r.1,r.2)):=by have d:=G.o.run;rw[b7.o]at d;unfold FW at d;rw[O]at d;exact(aI d).symm
  have Z:=hid D;have J:Hi _:=G.o.po.ok D;have a3:Hi _:=Ok.row' D G.o.row;have L:Hi (DJ X B vv r.1/\X.ownsRow B 78 3 lv r.2.length (lkL r.2)/\wr.heap.size<=B):=⟨c2,I,hB⟩;obtain⟨tl,z1,z2,z3⟩:=c2;obtain⟨vo,vc,rfl⟩:=za0 z2;obtain⟨lo,lc,rfl⟩:=za0 I;clear D O I hB z1 z2 z3 p0 p1 p2 p3 p4 p5 p6 p7 p8 p9 a8 a7 a1 a4 b6;obtain⟨p0,p1,p2,p3,p4,p5,p6,p7,p8,p9,a8,a7,a1,a4⟩:=wd0 a3.o;have d2:Hi (∀Y,Ok X Y->Calls Tryz.prog 41 #[.agg #[b 0,b 1,b 2,b 3,b 4,b 5,b 6,b 7,b 8,b 9,b 10,b 11,b 12]] Y λe w'=>∃mv,e=.returned mv/\w'.ownsRow Y.heap.size 3 1 mv (mgL N mg).length (ilL (mgL N mg))/\Ok Y w'):=λY hY=>zU7 b N cap H U es mg Y ((J.o.ok hY).pi a5.o.2.2).mrg HB.o.1;go_wp2_with fail;refine(d2.o _ ((Ok.refl X).alloc _)).mono ?_;rintro e w3 ⟨mv,rfl,hm,I⟩;obtain⟨gQ,a2⟩:=qq (X.heap.size);rw[<-a2];have d5:Hi (FE w3 (.slice vo r.1.length vc) r.1 (mv,sZ)):=(L.o.1.ok ((Ok.refl X).alloc _)).new I (t:=(false,mgL N mg,[])) ⟨hm,World.ownsRow_nil _ _ _ _⟩;have b2:Hi (w3.ownsRow (gQ+1) 3 1 mv (mgL N mg).length (ilL (mgL N mg))):=za7 hm (by rw[a2];exact za2 (za3 _ _));have d1:Hi (w3.heap[gQ]?=some (.cells #[Value.slice vo r.fst.length vc,Value.slice lo r.snd.length lc,sZ] 37 (0,0))):=by rw[a2];exact Ok.row' I (za3 _ _)
  have b0:Hi _:=Ok.row' ((G.o.ok.step Z.o).step (((Ok.refl X).alloc _).step I)) a9.o;have b1:Hi (Ok X w3):=((Ok.refl X).alloc _).step I;obtain⟨mo,mc,rfl⟩:=za0 hm;obtain⟨q0,q1,q2,q3,q4,q5,f3⟩:=ws8 d1.o;obtain⟨s0,s1,s2,s3,s4,s5,f2⟩:=ws8 b0.o;have d6:¬gQ=gR:=by have d:=c6.o.2;have h2:=G.o.ok.le;have h3:=Z.o.le;omega
  have d8:¬gR=gQ:=λe=>d6 e.symm;have HQ:Hi (w.heap.size<=gQ/\W0.heap.size<=gQ):=by have d:=G.o.ok.le;have h3:=Z.o.le;have h4:=K.o.le;unfold Hi;omega
  have d3:Hi (gQ=X.heap.size):=a2;clear a2 hm I;go_wp2_with fail;refine bodyPost_ret (results_cell_row rfl _ _ gR 37 #[_,_,_] (0,0) _ rfl (zd9 (zk3 b0.o d8 _) _ _ _) Tryz.underlying37 rfl wb6) rfl ?_;have hb:=HQ.o;have hB:=L.o.2.2;have hE:=K.o.le;have hF:=G.o.ok.le;have hG:=c6.o;have b9:=HG.o;have I:∀x,x≠gQ->x≠gR->((((w3.setCell (aD gQ 2) (Value.slice mo (mgL N mg).length mc)).setCell (aD gR 0) (Value.slice vo r.fst.length vc)).setCell (aD gR 1) (Value.slice lo r.snd.length lc)).setCell (aD gR 2) (Value.slice mo (mgL N mg).length mc)).heap[x]?=w3.heap[x]?:=λx d h2=>by rw[Below.heap_setCell _ _ _ _ h2,Below.heap_setCell _ _ _ _ h2,Below.heap_setCell _ _ _ _ h2,Below.heap_setCell _ _ _ _ d]
  have b5:∀x,x<X.heap.size->x≠gQ:=λx hx=>by have:=d3.o;omega
  have c0:R.1=mg/\R.2.1=r.1/\R.2.2=r.2:=by rw[b4.o];exact⟨rfl,rfl,rfl⟩
  unfold wp3;rw[c0.1,c0.2.1,c0.2.2];refine⟨_,_,_,rfl,?_,?_,?_,FE.same d5.o λx hx=>?_,?_⟩
  ·exact DJ.base (L.o.1.far λx d h2=>(I x (b5 x h2) oM).trans (b1.o.block x h2)) oM
  ·refine za7 (zb4 (za1 L.o.2.1 b1.o) λx hx=>I x (b5 x (L.o.2.1.lt x hx).2) (by have:=(L.o.2.1.lt x hx).1;omega)) oM
  ·exact za7 (zb4 b2.o λx hx=>I x (by have:=(b2.o.lt x hx).1;omega) (by have:=(b2.o.lt x hx).1;omega)) oM
  ·obtain⟨tl,z1,z2,z3⟩:=L.o.1
   exact I x (b5 x (z2.lt x hx).2) (by have:=(z2.lt x hx).1;omega)
  exact((((((K.o.step G.o.ok).step Z.o).step b1.o).set hb.1 _).set b9 _).set b9 _).set b9 _
def CW:List Int->Bool
 | a::b::l=>decide (a<b)&&CW (b::l)
 | _=>true
def zh2(v l m:Int)(w:World):Calls Tryz.prog 132 #[nI v,nI l,nI m] w λe w'=>e=.returned (.bool (decide (l<=v)&&decide (v<=m)))/\Ok w w':=by
 go_enter Tryz.func132,Tryz.ntmps132;go_wp2_with fail
 all_goals go_ret
 ·exact⟨by simp[*],Ok.refl _⟩
 have d:¬l<=v:=oM;exact⟨by simp[d],Ok.refl _⟩
def yc9(c:Nat->Int)(tz:Option Addr)(d tc:Nat)(w:World):Calls Tryz.prog 131 #[.agg #[nI (c 0),nI (c 1),nI (c 2),nI (c 3),nI (c 4),nI (c 5),.slice tz d tc,nI (c 7),nI (c 8)]] w λe w'=>e=.returned (.bool (decide (0<=c 0)&&decide (c 0<=3)))/\Ok w w':=by go_enter Tryz.func131,Tryz.ntmps131;go_wp2_with fail;refine mq (zh2 _ _ _ _) λD o=>?_;go_wp2_with fail;go_ret;exact⟨rfl,((Ok.refl w).alloc _).step o⟩
def yd0(c:Nat->Int)(tz:Option Addr)(d tc:Nat)(w:World):Calls Tryz.prog 133 #[.agg #[nI (c 0),nI (c 1),nI (c 2),nI (c 3),nI (c 4),nI (c 5),.slice tz d tc,nI (c 7),nI (c 8)]] w λe w'=>e=.returned (.bool (decide (0<=c 1)&&decide (c 1<=3)))/\Ok w w':=by go_enter Tryz.func133,Tryz.ntmps133;go_wp2_with fail;refine mq (zh2 _ _ _ _) λD o=>?_;go_wp2_with fail;go_ret;exact⟨rfl,((Ok.refl w).alloc _).step o⟩
def yd1(c:Nat->Int)(tz:Option Addr)(d tc:Nat)(w:World):Calls Tryz.prog 134 #[.agg #[nI (c 0),nI (c 1),nI (c 2),nI (c 3),nI (c 4),nI (c 5),.slice tz d tc,nI (c 7),nI (c 8)]] w λe w'=>e=.returned (.bool (decide (1<=c 2)&&decide (c 2<=6)))/\Ok w w':=by go_enter Tryz.func134,Tryz.ntmps134;go_wp2_with fail;refine mq (zh2 _ _ _ _) λD o=>?_;go_wp2_with fail;go_ret;exact⟨rfl,((Ok.refl w).alloc _).step o⟩
def yd2(c:Nat->Int)(tz:Option Addr)(d tc:Nat)(w:World):Calls Tryz.prog 135 #[.agg #[nI (c 0),nI (c 1),nI (c 2),nI (c 3),nI (c 4),nI (c 5),.slice tz d tc,nI (c 7),nI (c 8)]] w λe w'=>e=.returned (.bool (decide (0<=c 3)&&decide (c 3<=6)))/\Ok w w':=by go_enter Tryz.func135,Tryz.ntmps135;go_wp2_with fail;refine mq (zh2 _ _ _ _) λD o=>?_;go_wp2_with fail;go_ret;exact⟨rfl,((Ok.refl w).alloc _).step o⟩
def yd3(c:Nat->Int)(tz:Option Addr)(d tc:Nat)(w:World):Calls Tryz.prog 136 #[.agg #[nI (c 0),nI (c 1),nI (c 2),nI (c 3),nI (c 4),nI (c 5),.slice tz d tc,nI (c 7),nI (c 8)]] w λe w'=>e=.returned (.bool (decide (0<=c 4)&&decide (c 4<=3)))/\Ok w w':=by go_enter Tryz.func136,Tryz.ntmps136;go_wp2_with fail;refine mq (zh2 _ _ _ _) λD o=>?_;go_wp2_with fail;go_ret;exact⟨rfl,((Ok.refl w).alloc _).step o⟩
def yd4(c:Nat->Int)(tz:Option Addr)(d tc:Nat)(w:World):Calls Tryz.prog 137 #[.agg #[nI (c 0),nI (c 1),nI (c 2),nI (c 3),nI (c 4),nI (c 5),.slice tz d tc,nI (c 7),nI (c 8)]] w λe w'=>e=.returned (.bool (decide (0<=c 5)&&decide (c 5<=3)))/\Ok w w':=by go_enter Tryz.func137,Tryz.ntmps137;go_wp2_with fail;refine mq (zh2 _ _ _ _) λD o=>?_;go_wp2_with fail;go_ret;exact⟨rfl,((Ok.refl w).alloc _).step o⟩
def yd5(c:Nat->Int)(tz:Option Addr)(d tc:Nat)(w:World):Calls Tryz.prog 140 #[.agg #[nI (c 0),nI (c 1),nI (c 2),nI (c 3),nI (c 4),nI (c 5),.slice tz d tc,nI (c 7),nI (c 8)]] w λe w'=>e=.returned (.bool (decide (0<=c 7)&&decide (c 7<=5000)))/\Ok w w':=by go_enter Tryz.func140,Tryz.ntmps140;go_wp2_with fail;refine mq (zh2 _ _ _ _) λD o=>?_;go_wp2_with fail;go_ret;exact⟨rfl,((Ok.refl w).alloc _).step o⟩
def yd6(c:Nat->Int)(tz:Option Addr)(d tc:Nat)(w:World):Calls Tryz.prog 141 #[.agg #[nI (c 0),nI (c 1),nI (c 2),nI (c 3),nI (c 4),nI (c 5),.slice tz d tc,nI (c 7),nI (c 8)]] w λe w'=>e=.returned (.bool (decide (0<=c 8)&&decide (c 8<=4)))/\Ok w w':=by go_enter Tryz.func141,Tryz.ntmps141;go_wp2_with fail;refine mq (zh2 _ _ _ _) λD o=>?_;go_wp2_with fail;go_ret;exact⟨rfl,((Ok.refl w).alloc _).step o⟩
def zt7{a b:Int}(I:ts[k]?=some a)(d:ts[k+1]?=some b):CW (ts.drop k)=(decide (a<b)&&CW (ts.drop (k+1))):=by obtain⟨G,D⟩:=aE.1 I;obtain⟨J,o⟩:=aE.1 d;rw[aP G,aP J,D,o];rfl
def zU8(h:ts.length<=k+1):CW (ts.drop k)=true:=by
 have d:(ts.drop k).length<=1:=by rw[cW];omega
 match o:ts.drop k,d with
 | [],_=>rfl
 | [a],_=>rfl
def yo7(ts:List Int)(tz:Option Addr)(tc:Nat)(w:World)(h:SL w 1 (.slice tz ts.length tc) ts.length (ilL ts))(o:ts.length<=6):Calls Tryz.prog 139 #[.slice tz ts.length tc] w λe w'=>e=.returned (.bool (CW ts))/\Ok w w':=by
 have HM:=hid h;have Y:=hid o;obtain⟨N,d⟩:=qq (ts.length);have J:Hi (N=ts.length):=d;rw[<-d];clear h o d;go_enter Tryz.func139,Tryz.ntmps139;go_wp2_with fail;go_loopw [3] (λR wr=>∃k:Nat,R=nI ((k+1:Nat):Int)/\Hi (Ok w wr/\CW ts=CW (ts.drop k)/\(k=0\/k<N))) (λR _=>((N:Int)-intOf R).toNat)
 case atStart=>exact⟨0,rfl,Ok.refl _,rfl,Or.inl rfl⟩
 obtain⟨k,rfl,d⟩:=hrel;obtain⟨i,o⟩:=qq (k+1);have I:Hi (i=k+1):=o;rw[<-o];clear o;by_cases G:i<N
 ·obtain⟨b,o,c,e1,K,O⟩:=HM.o.at (k:=i) (by decide) (by rw[<-J.o];exact G)
  injection e1 with e4 e5 e6
  subst e4 e6;clear e5;obtain⟨x,L⟩:∃x,ts[k]?=some x:=⟨_,gG_ (oK I.o J.o)⟩;obtain⟨y,X⟩:∃y,ts[k+1]?=some y:=⟨_,gG_ (oK I.o J.o)⟩;have r0:wr.cell? ⟨b,o+i,none⟩=some (nI y):=d.o.1.cell (p:=⟨b,o+i,none⟩) K (O i _ (by rw[I.o];unfold ilL;rw[aX,X];rfl));have r1:wr.cell? ⟨b,o+k,none⟩=some (nI x):=d.o.1.cell (p:=⟨b,o+k,none⟩) K (O k _ (by unfold ilL;rw[aX,L];rfl));have D:Hi (ts[k]?=some x/\ts[k+1]?=some y):=⟨L,X⟩;have lb:b<wr.heap.size:=lL_ K d.o.1.le;have W:(i:Int)<(N:Int):=za5 G;have kw:IntKind.i64.wrap ((i:Int)+1)=((i+1:Nat):Int):=zb3 (oK J.o Y.o);have km:IntKind.i64.wrap ((i:Int)-1)=((k:Nat):Int):=zd3 (by have h1:=I.o;omega) (by have:=J.o;have:=Y.o;have:=I.o;omega);have Z:(k:Int)<(N:Int):=by have h1:=I.o;omega
  clear K O L X;by_cases K:y<=x
  ·have HD:Hi (CW ts=false):=by unfold Hi;rw[d.o.2.1,zt7 D.o.1 D.o.2,aN oM,dY]
   go_upto_region 4 with (fail)
   go_quiet (fail);go_wp2_with fail;go_ret;exact⟨by show Ending.returned (.bool false)=_;rw[HD.o],d.o.1.draws _⟩
  have HD:Hi (CW ts=CW (ts.drop i)):=by unfold Hi;rw[d.o.2.1,zt7 D.o.1 D.o.2,aV oM,fU,I.o]
  go_upto_region 4 with (fail)
  go_quiet (fail);go_wp2_with fail;exact⟨⟨i,rfl,d.o.1.draws _,HD.o,Or.inr G⟩,by show((N:Int)-((i:Int)+1)).toNat<((N:Int)-(i:Int)).toNat;omega⟩
 have W:¬(i:Int)<(N:Int):=zb2 G;go_wp2_with fail;go_ret;exact⟨by show Ending.returned (.bool true)=_;rw[d.o.2.1,zU8 (oK I.o J.o)],d.o.1⟩
def yd7(c:Nat->Int)(ts:List Int)(tz:Option Addr)(tc:Nat)(w:World)(h:SL w 1 (.slice tz ts.length tc) ts.length (ilL ts)):Calls Tryz.prog 138 #[.agg #[nI (c 0),nI (c 1),nI (c 2),nI (c 3),nI (c 4),nI (c 5),.slice tz ts.length tc,nI (c 7),nI (c 8)]] w λe w'=>e=.returned (.bool (decide (ts.length<=6)&&CW ts))/\Ok w w':=by
 have G:Hi (∀Y,Ok w Y->ts.length<=6->Calls Tryz.prog 139 #[.slice tz ts.length tc] Y λe w'=>e=.returned (.bool (CW ts))/\Ok Y w'):=λY J d=>yo7 ts tz tc Y (h.below J) d;clear h;obtain⟨N,D⟩:=qq (ts.length);rw[<-D]at G;rw[<-D];clear D;by_cases d:N<=6
 ·have D:(N:Int)<=6:=oM
  have HD:=hid (dT_ d);go_enter Tryz.func138,Tryz.ntmps138;go_wp2_with fail;refine mq (G.o _ ((Ok.refl w).alloc _) d) λL I=>?_;have K:Hi (Ok w L):=((Ok.refl w).alloc _).step I;clear I;go_wp2_with fail;go_ret;exact⟨by rw[HD.o];rfl,K.o⟩
 have D:¬(N:Int)<=6:=oM;have HD:=hid (dF_ d);go_enter Tryz.func138,Tryz.ntmps138;go_wp2_with fail;go_ret;exact⟨rfl,(Ok.refl w).alloc _⟩
def ws9:Array Value:=#[nI 190,.func (.func 131) #[] #[],nI 191,.func (.func 133) #[] #[],nI 192,.func (.func 134) #[] #[],nI 193,.func (.func 135) #[] #[],nI 194,.func (.func 136) #[] #[],nI 195,.func (.func 137) #[] #[],nI 196,.func (.func 138) #[] #[],nI 197,.func (.func 140) #[] #[],nI 198,.func (.func 141) #[] #[]]
def yo8:ws9.all (·.oneCell')=true:=by unfold ws9;simp[Value.oneCell']
def wq2:(Tryz.prog.info? 213).map (·.size)=some 18:=by kernel_rfl
def zU9(w:World):Calls Tryz.prog 101 #[] w λe w'=>e=.returned (.agg #[nI 190,.func (.func 131) #[] #[],nI 191,.func (.func 133) #[] #[],nI 192,.func (.func 134) #[] #[],nI 193,.func (.func 135) #[] #[],nI 194,.func (.func 136) #[] #[],nI 195,.func (.func 137) #[] #[],nI 196,.func (.func 138) #[] #[],nI 197,.func (.func 140) #[] #[],nI 198,.func (.func 141) #[] #[]])/\Ok w w':=by
 go_enter Tryz.func101,Tryz.ntmps101
 go_wp2_with (first|(refine za8 rfl 213 _ _ rfl w.heap.size 213 #[nI 0,.nilFunc,nI 0,.nilFunc,nI 0,.nilFunc,nI 0,.nilFunc,nI 0,.nilFunc,nI 0,.nilFunc,nI 0,.nilFunc,nI 0,.nilFunc,nI 0,.nilFunc] #[nI 190,.func (.func 131) #[] #[],nI 191,.func (.func 133) #[] #[],nI 192,.func (.func 134) #[] #[],nI 193,.func (.func 135) #[] #[],nI 194,.func (.func 136) #[] #[],nI 195,.func (.func 137) #[] #[],nI 196,.func (.func 138) #[] #[],nI 197,.func (.func 140) #[] #[],nI 198,.func (.func 141) #[] #[]] (by rfl) (by rfl) (za3 _ _) wq2 rfl yo8 ?_)|fail)
 refine bodyPost_ret (results_cell_row rfl _ _ w.heap.size 213 #[nI 190,.func (.func 131) #[] #[],nI 191,.func (.func 133) #[] #[],nI 192,.func (.func 134) #[] #[],nI 193,.func (.func 135) #[] #[],nI 194,.func (.func 136) #[] #[],nI 195,.func (.func 137) #[] #[],nI 196,.func (.func 138) #[] #[],nI 197,.func (.func 140) #[] #[],nI 198,.func (.func 141) #[] #[]] (0,0) _ rfl (setRow_heap _ _ _ _ _ _ (za3 _ _)) Tryz.underlying213 rfl wq2) rfl ?_;exact⟨rfl,zd0 ((Ok.refl w).alloc _) (nR_ _) _⟩
def lix(A:Value)(d:A=.agg #[nI 190,.func (.func 131) #[] #[],nI 191,.func (.func 133) #[] #[],nI 192,.func (.func 134) #[] #[],nI 193,.func (.func 135) #[] #[],nI 194,.func (.func 136) #[] #[],nI 195,.func (.func 137) #[] #[],nI 196,.func (.func 138) #[] #[],nI 197,.func (.func 140) #[] #[],nI 198,.func (.func 141) #[] #[]])(w:World):Sem.run Tryz.prog (Instr.index 213 A (nI 0)) w=.ok (.agg #[nI 190,.func (.func 131) #[] #[]]) w/\Sem.run Tryz.prog (Instr.index 213 A (nI 1)) w=.ok (.agg #[nI 191,.func (.func 133) #[] #[]]) w/\Sem.run Tryz.prog (Instr.index 213 A (nI 2)) w=.ok (.agg #[nI 192,.func (.func 134) #[] #[]]) w/\Sem.run Tryz.prog (Instr.index 213 A (nI 3)) w=.ok (.agg #[nI 193,.func (.func 135) #[] #[]]) w/\Sem.run Tryz.prog (Instr.index 213 A (nI 4)) w=.ok (.agg #[nI 194,.func (.func 136) #[] #[]]) w/\Sem.run Tryz.prog (Instr.index 213 A (nI 5)) w=.ok (.agg #[nI 195,.func (.func 137) #[] #[]]) w/\Sem.run Tryz.prog (Instr.index 213 A (nI 6)) w=.ok (.agg #[nI 196,.func (.func 138) #[] #[]]) w/\Sem.run Tryz.prog (Instr.index 213 A (nI 7)) w=.ok (.agg #[nI 197,.func (.func 140) #[] #[]]) w/\Sem.run Tryz.prog (Instr.index 213 A (nI 8)) w=.ok (.agg #[nI 198,.func (.func 141) #[] #[]]) w:=by
 subst d
 refine⟨?_,?_,?_,?_,?_,?_,?_,?_,?_⟩<;>kernel_rfl
def wd2:(Tryz.prog.info? 212).map (·.size)=some 2:=by kernel_rfl
def zk4(w:World)(cs:Array Value):∃(X:World) (g:Nat),((w.alloc (Obj.cells #[nI 0,.nilFunc] 212)).setRow w.heap.size cs=X/\w.heap.size=g)/\Hi (Ok w X)/\Hi (X.heap[g]?=some (.cells cs 212 (0,0))/\g<X.heap.size) :=
 ⟨_,_,⟨rfl,rfl⟩,zd0 ((Ok.refl w).alloc _) (nR_ _) _,setRow_heap _ _ _ _ _ _ (za3 _ _),za2 (setRow_heap _ _ _ _ _ _ (za3 _ _))⟩
def CZ(c:Nat->Int)(ts:List Int):Nat->Bool
 | 0=>decide (0<=c 0)&&decide (c 0<=3)
 | 1=>decide (0<=c 1)&&decide (c 1<=3)
 | 2=>decide (1<=c 2)&&decide (c 2<=6)
 | 3=>decide (0<=c 3)&&decide (c 3<=6)
 | 4=>decide (0<=c 4)&&decide (c 4<=3)
 | 5=>decide (0<=c 5)&&decide (c 5<=3)
 | 6=>decide (ts.length<=6)&&CW ts
 | 7=>decide (0<=c 7)&&decide (c 7<=5000)
 | 8=>decide (0<=c 8)&&decide (c 8<=4)
 | _=>true
def AK(c:Nat->Int)(ts:List Int):Int:=match (List.range 9).find? (λk => !CZ c ts k) with
 | some k=>190+(k:Int)
 | none=>0
def zg0(hk:k<9)(d:∀j,j<k->CZ c ts j=true)(h:CZ c ts k=false):AK c ts=190+(k:Int):=by
 have e:(List.range 9).find? (λk => !CZ c ts k)=some k:=by rw[List.find?_range_eq_some];exact⟨by rw[h];rfl,dJ.2 hk,λj o=>by rw[d j o];rfl⟩
 unfold AK;rw[e]
def zg1(hl:∀j,j<k->CZ c ts j=true)(h:CZ c ts k=true):∀j,j<k+1->CZ c ts j=true:=λj d=>by
 by_cases e:j=k
 ·rw[e];exact h
 exact hl j oM
def yd8(hl:∀j,j<9->CZ c ts j=true):AK c ts=0:=by
 have e:(List.range 9).find? (λk => !CZ c ts k)=none:=by rw[fG];intro j d;rw[hl j (dJ.1 d)];decide
 unfold AK;rw[e]
def zo0(h:AK c ts=0)(G:k<9):CZ c ts k=true:=by
 unfold AK at h
 cases o:(List.range 9).find? (λk => !CZ c ts k) with
 | none =>
  have d:=fG.1 o k (dJ.2 G)
  cases D:CZ c ts k with
  | true=>rfl
  | false=>rw[D]at d;exact absurd rfl d
 | some k=>rw[o]at h;have d:190+(k:Int)=0:=h;omega
def zK4(c:Nat->Int)(ts:List Int)(tz:Option Addr)(tc:Nat)(w:World)(h:SL w 1 (.slice tz ts.length tc) ts.length (ilL ts)):Calls Tryz.prog 66 #[.agg #[nI (c 0),nI (c 1),nI (c 2),nI (c 3),nI (c 4),nI (c 5),.slice tz ts.length tc,nI (c 7),nI (c 8)]] w λe w'=>e=.returned (nI (AK c ts))/\Ok w w':=by
 have a2:Hi (∀Y,Ok w Y->Calls Tryz.prog 131 #[.agg #[nI (c 0),nI (c 1),nI (c 2),nI (c 3),nI (c 4),nI (c 5),.slice tz ts.length tc,nI (c 7),nI (c 8)]] Y λe w'=>e=.returned (.bool (CZ c ts 0))/\Ok Y w'):=λY hY=>yc9 c tz ts.length tc Y;have b0:Hi (∀Y,Ok w Y->Calls Tryz.prog 133 #[.agg #[nI (c 0),nI (c 1),nI (c 2),nI (c 3),nI (c 4),nI (c 5),.slice tz ts.length tc,nI (c 7),nI (c 8)]] Y λe w'=>e=.returned (.bool (CZ c ts 1))/\Ok Y w'):=λY hY=>yd0 c tz ts.length tc Y;have a9:Hi (∀Y,Ok w Y->Calls Tryz.prog 134 #[.agg #[nI (c 0),nI (c 1),nI (c 2),nI (c 3),nI (c 4),nI (c 5),.slice tz ts.length tc,nI (c 7),nI (c 8)]] Y λe w'=>e=.returned (.bool (CZ c ts 2))/\Ok Y w'):=λY hY=>yd1 c tz ts.length tc Y;have a7:Hi (∀Y,Ok w Y->Calls Tryz.prog 135 #[.agg #[nI (c 0),nI (c 1),nI (c 2),nI (c 3),nI (c 4),nI (c 5),.slice tz ts.length tc,nI (c 7),nI (c 8)]] Y λe w'=>e=.returned (.bool (CZ c ts 3))/\Ok Y w'):=λY hY=>yd2 c tz ts.length tc Y;have a5:Hi (∀Y,Ok w Y->Calls Tryz.prog 136 #[.agg #[nI (c 0),nI (c 1),nI (c 2),nI (c 3),nI (c 4),nI (c 5),.slice tz ts.length tc,nI (c 7),nI (c 8)]] Y λe w'=>e=.returned (.bool (CZ c ts 4))/\Ok Y w'):=λY hY=>yd3 c tz ts.length tc Y;have a6:Hi (∀Y,Ok w Y->Calls Tryz.prog 137 #[.agg #[nI (c 0),nI (c 1),nI (c 2),nI (c 3),nI (c 4),nI (c 5),.slice tz ts.length tc,nI (c 7),nI (c 8)]] Y λe w'=>e=.returned (.bool (CZ c ts 5))/\Ok Y w'):=λY hY=>yd4 c tz ts.length tc Y;have a8:Hi (∀Y,Ok w Y->Calls Tryz.prog 138 #[.agg #[nI (c 0),nI (c 1),nI (c 2),nI (c 3),nI (c 4),nI (c 5),.slice tz ts.length tc,nI (c 7),nI (c 8)]] Y λe w'=>e=.returned (.bool (CZ c ts 6))/\Ok Y w'):=λY hY=>yd7 c ts tz tc Y (h.below hY);have a4:Hi (∀Y,Ok w Y->Calls Tryz.prog 140 #[.agg #[nI (c 0),nI (c 1),nI (c 2),nI (c 3),nI (c 4),nI (c 5),.slice tz ts.length tc,nI (c 7),nI (c 8)]] Y λe w'=>e=.returned (.bool (CZ c ts 7))/\Ok Y w'):=λY hY=>yd5 c tz ts.length tc Y;have a3:Hi (∀Y,Ok w Y->Calls Tryz.prog 141 #[.agg #[nI (c 0),nI (c 1),nI (c 2),nI (c 3),nI (c 4),nI (c 5),.slice tz ts.length tc,nI (c 7),nI (c 8)]] Y λe w'=>e=.returned (.bool (CZ c ts 8))/\Ok Y w'):=λY hY=>yd6 c tz ts.length tc Y;clear h;obtain⟨N,d⟩:=qq (ts.length);rw[<-d]at a2 b0 a9 a7 a5 a6 a8 a4 a3;rw[<-d];clear d;go_enter Tryz.func66,Tryz.ntmps66;go_wp2_with fail;refine mq (zU9 _) λW0 d=>?_;have HK:Hi (Ok w W0):=((Ok.refl w).alloc _).step d;obtain⟨g1,D⟩:=qq (w.heap.size);have b1:Hi (W0.heap[g1]?=some (.cells #[nI (c 0),nI (c 1),nI (c 2),nI (c 3),nI (c 4),nI (c 5),.slice tz N tc,nI (c 7),nI (c 8)] 24 (0,0))):=Ok.row' d (by rw[D];exact za3 _ _);rw[<-D];clear D d;go_wp2_with fail;go_loopw [6] (λt6 wr=>∃k:Nat,t6=nI (k:Nat)/\k<=9/\Hi (Ok W0 wr/\∀j,j<k->CZ c ts j=true)) (λt6 _=>((9:Int)-intOf t6).toNat)
 case atStart=>exact⟨0,rfl,oM,Ok.refl _,λj d=>absurd d (eA _)⟩
 obtain⟨k,rfl,hk,HR⟩:=hrel;have HC:Hi _:=Ok.row' HR.o.1 b1.o;have L:=hid (HK.o.step HR.o.1);have HE:=hid hk
 match k,hk with
 | 0,_ =>
  have ix:=(lix _ rfl wr).1
  go_wp2_with (first|(refine za8 rfl 212 _ _ rfl wr.heap.size 212 #[nI 0,.nilFunc] #[nI 190,.func (.func 131) #[] #[]] (by rfl) (by rfl) (za3 _ _) wd2 rfl (by simp[Value.oneCell']) ?_;obtain⟨X,gL,R,D,G⟩:=zk4 wr #[nI 190,.func (.func 131) #[] #[]];rw[R.1,R.2];clear R;obtain⟨q0,q1,W,a1⟩:=zd1 G.o.1;have I:=G.o.2;obtain⟨p0,p1,p2,p3,p4,p5,p6,p7,p8,O⟩:=CH (Ok.row' D.o HC.o))|fail)
  refine mq (a2.o _ (L.o.step D.o)) λw2 d=>?_;have J:=hid (D.o.step d);have r1:=d.cell (p:=⟨gL,0,none⟩) I q0;have l2:=lL_ I d.le;clear d p0 p1 p2 p3 p4 p5 p6 p7 p8 O ix q0 q1 W a1
  cases K:CZ c ts 0 with
  | true =>
   have Z:=hid K;clear K;go_wp2_with fail;exact⟨⟨1,rfl,oM,HR.o.1.step J.o,zg1 HR.o.2 Z.o⟩,by decide⟩
  | false =>
   have Z:Hi (AK c ts=190):=zg0 dC HR.o.2 K;clear K;go_wp2_with fail;go_ret;exact⟨by rw[Z.o];rfl,L.o.step J.o⟩
 | 1,_ =>
  have ix:=(lix _ rfl wr).2.1
  go_wp2_with (first|(refine za8 rfl 212 _ _ rfl wr.heap.size 212 #[nI 0,.nilFunc] #[nI 191,.func (.func 133) #[] #[]] (by rfl) (by rfl) (za3 _ _) wd2 rfl (by simp[Value.oneCell']) ?_;obtain⟨X,gL,R,D,G⟩:=zk4 wr #[nI 191,.func (.func 133) #[] #[]];rw[R.1,R.2];clear R;obtain⟨q0,q1,W,a1⟩:=zd1 G.o.1;have I:=G.o.2;obtain⟨p0,p1,p2,p3,p4,p5,p6,p7,p8,O⟩:=CH (Ok.row' D.o HC.o))|fail)
  refine mq (b0.o _ (L.o.step D.o)) λw2 d=>?_;have J:=hid (D.o.step d);have r1:=d.cell (p:=⟨gL,0,none⟩) I q0;have l2:=lL_ I d.le;clear d p0 p1 p2 p3 p4 p5 p6 p7 p8 O ix q0 q1 W a1
  cases K:CZ c ts 1 with
  | true =>
   have Z:=hid K;clear K;go_wp2_with fail;exact⟨⟨2,rfl,oM,HR.o.1.step J.o,zg1 HR.o.2 Z.o⟩,by decide⟩
  | false =>
   have Z:Hi (AK c ts=191):=zg0 dC HR.o.2 K;clear K;go_wp2_with fail;go_ret;exact⟨by rw[Z.o];rfl,L.o.step J.o⟩
 | 2,_ =>
  have ix:=(lix _ rfl wr).2.2.1
  go_wp2_with (first|(refine za8 rfl 212 _ _ rfl wr.heap.size 212 #[nI 0,.nilFunc] #[nI 192,.func (.func 134) #[] #[]] (by rfl) (by rfl) (za3 _ _) wd2 rfl (by simp[Value.oneCell']) ?_;obtain⟨X,gL,R,D,G⟩:=zk4 wr #[nI 192,.func (.func 134) #[] #[]];rw[R.1,R.2];clear R;obtain⟨q0,q1,W,a1⟩:=zd1 G.o.1;have I:=G.o.2;obtain⟨p0,p1,p2,p3,p4,p5,p6,p7,p8,O⟩:=CH (Ok.row' D.o HC.o))|fail)
  refine mq (a9.o _ (L.o.step D.o)) λw2 d=>?_;have J:=hid (D.o.step d);have r1:=d.cell (p:=⟨gL,0,none⟩) I q0;have l2:=lL_ I d.le;clear d p0 p1 p2 p3 p4 p5 p6 p7 p8 O ix q0 q1 W a1
  cases K:CZ c ts 2 with
  | true =>
   have Z:=hid K;clear K;go_wp2_with fail;exact⟨⟨3,rfl,oM,HR.o.1.step J.o,zg1 HR.o.2 Z.o⟩,by decide⟩
  | false =>
   have Z:Hi (AK c ts=192):=zg0 dC HR.o.2 K;clear K;go_wp2_with fail;go_ret;exact⟨by rw[Z.o];rfl,L.o.step J.o⟩
 | 3,_ =>
  have ix:=(lix _ rfl wr).2.2.2.1
  go_wp2_with (first|(refine za8 rfl 212 _ _ rfl wr.heap.size 212 #[nI 0,.nilFunc] #[nI 193,.func (.func 135) #[] #[]] (by rfl) (by rfl) (za3 _ _) wd2 rfl (by simp[Value.oneCell']) ?_;obtain⟨X,gL,R,D,G⟩:=zk4 wr #[nI 193,.func (.func 135) #[] #[]];rw[R.1,R.2];clear R;obtain⟨q0,q1,W,a1⟩:=zd1 G.o.1;have I:=G.o.2;obtain⟨p0,p1,p2,p3,p4,p5,p6,p7,p8,O⟩:=CH (Ok.row' D.o HC.o))|fail)
  refine mq (a7.o _ (L.o.step D.o)) λw2 d=>?_;have J:=hid (D.o.step d);have r1:=d.cell (p:=⟨gL,0,none⟩) I q0;have l2:=lL_ I d.le;clear d p0 p1 p2 p3 p4 p5 p6 p7 p8 O ix q0 q1 W a1
  cases K:CZ c ts 3 with
  | true =>
   have Z:=hid K;clear K;go_wp2_with fail;exact⟨⟨4,rfl,oM,HR.o.1.step J.o,zg1 HR.o.2 Z.o⟩,by decide⟩
  | false =>
   have Z:Hi (AK c ts=193):=zg0 dC HR.o.2 K;clear K;go_wp2_with fail;go_ret;exact⟨by rw[Z.o];rfl,L.o.step J.o⟩
 | 4,_ =>
  have ix:=(lix _ rfl wr).2.2.2.2.1
  go_wp2_with (first|(refine za8 rfl 212 _ _ rfl wr.heap.size 212 #[nI 0,.nilFunc] #[nI 194,.func (.func 136) #[] #[]] (by rfl) (by rfl) (za3 _ _) wd2 rfl (by simp[Value.oneCell']) ?_;obtain⟨X,gL,R,D,G⟩:=zk4 wr #[nI 194,.func (.func 136) #[] #[]];rw[R.1,R.2];clear R;obtain⟨q0,q1,W,a1⟩:=zd1 G.o.1;have I:=G.o.2;obtain⟨p0,p1,p2,p3,p4,p5,p6,p7,p8,O⟩:=CH (Ok.row' D.o HC.o))|fail)
  refine mq (a5.o _ (L.o.step D.o)) λw2 d=>?_;have J:=hid (D.o.step d);have r1:=d.cell (p:=⟨gL,0,none⟩) I q0;have l2:=lL_ I d.le;clear d p0 p1 p2 p3 p4 p5 p6 p7 p8 O ix q0 q1 W a1
  cases K:CZ c ts 4 with
  | true =>
   have Z:=hid K;clear K;go_wp2_with fail;exact⟨⟨5,rfl,oM,HR.o.1.step J.o,zg1 HR.o.2 Z.o⟩,by decide⟩
  | false =>
   have Z:Hi (AK c ts=194):=zg0 dC HR.o.2 K;clear K;go_wp2_with fail;go_ret;exact⟨by rw[Z.o];rfl,L.o.step J.o⟩
 | 5,_ =>
  have ix:=(lix _ rfl wr).2.2.2.2.2.1
  go_wp2_with (first|(refine za8 rfl 212 _ _ rfl wr.heap.size 212 #[nI 0,.nilFunc] #[nI 195,.func (.func 137) #[] #[]] (by rfl) (by rfl) (za3 _ _) wd2 rfl (by simp[Value.oneCell']) ?_;obtain⟨X,gL,R,D,G⟩:=zk4 wr #[nI 195,.func (.func 137) #[] #[]];rw[R.1,R.2];clear R;obtain⟨q0,q1,W,a1⟩:=zd1 G.o.1;have I:=G.o.2;obtain⟨p0,p1,p2,p3,p4,p5,p6,p7,p8,O⟩:=CH (Ok.row' D.o HC.o))|fail)
  refine mq (a6.o _ (L.o.step D.o)) λw2 d=>?_;have J:=hid (D.o.step d);have r1:=d.cell (p:=⟨gL,0,none⟩) I q0;have l2:=lL_ I d.le;clear d p0 p1 p2 p3 p4 p5 p6 p7 p8 O ix q0 q1 W a1
  cases K:CZ c ts 5 with
  | true =>
   have Z:=hid K;clear K;go_wp2_with fail;exact⟨⟨6,rfl,oM,HR.o.1.step J.o,zg1 HR.o.2 Z.o⟩,by decide⟩
  | false =>
   have Z:Hi (AK c ts=195):=zg0 dC HR.o.2 K;clear K;go_wp2_with fail;go_ret;exact⟨by rw[Z.o];rfl,L.o.step J.o⟩
 | 6,_ =>
  have ix:=(lix _ rfl wr).2.2.2.2.2.2.1
  go_wp2_with (first|(refine za8 rfl 212 _ _ rfl wr.heap.size 212 #[nI 0,.nilFunc] #[nI 196,.func (.func 138) #[] #[]] (by rfl) (by rfl) (za3 _ _) wd2 rfl (by simp[Value.oneCell']) ?_;obtain⟨X,gL,R,D,G⟩:=zk4 wr #[nI 196,.func (.func 138) #[] #[]];rw[R.1,R.2];clear R;obtain⟨q0,q1,W,a1⟩:=zd1 G.o.1;have I:=G.o.2;obtain⟨p0,p1,p2,p3,p4,p5,p6,p7,p8,O⟩:=CH (Ok.row' D.o HC.o))|fail)
  refine mq (a8.o _ (L.o.step D.o)) λw2 d=>?_;have J:=hid (D.o.step d);have r1:=d.cell (p:=⟨gL,0,none⟩) I q0;have l2:=lL_ I d.le;clear d p0 p1 p2 p3 p4 p5 p6 p7 p8 O ix q0 q1 W a1
  cases K:CZ c ts 6 with
  | true =>
   have Z:=hid K;clear K;go_wp2_with fail;exact⟨⟨7,rfl,oM,HR.o.1.step J.o,zg1 HR.o.2 Z.o⟩,by decide⟩
  | false =>
   have Z:Hi (AK c ts=196):=zg0 dC HR.o.2 K;clear K;go_wp2_with fail;go_ret;exact⟨by rw[Z.o];rfl,L.o.step J.o⟩
 | 7,_ =>
  have ix:=(lix _ rfl wr).2.2.2.2.2.2.2.1
  go_wp2_with (first|(refine za8 rfl 212 _ _ rfl wr.heap.size 212 #[nI 0,.nilFunc] #[nI 197,.func (.func 140) #[] #[]] (by rfl) (by rfl) (za3 _ _) wd2 rfl (by simp[Value.oneCell']) ?_;obtain⟨X,gL,R,D,G⟩:=zk4 wr #[nI 197,.func (.func 140) #[] #[]];rw[R.1,R.2];clear R;obtain⟨q0,q1,W,a1⟩:=zd1 G.o.1;have I:=G.o.2;obtain⟨p0,p1,p2,p3,p4,p5,p6,p7,p8,O⟩:=CH (Ok.row' D.o HC.o))|fail)
  refine mq (a4.o _ (L.o.step D.o)) λw2 d=>?_;have J:=hid (D.o.step d);have r1:=d.cell (p:=⟨gL,0,none⟩) I q0;have l2:=lL_ I d.le;clear d p0 p1 p2 p3 p4 p5 p6 p7 p8 O ix q0 q1 W a1
  cases K:CZ c ts 7 with
  | true =>
   have Z:=hid K;clear K;go_wp2_with fail;exact⟨⟨8,rfl,oM,HR.o.1.step J.o,zg1 HR.o.2 Z.o⟩,by decide⟩
  | false =>
   have Z:Hi (AK c ts=197):=zg0 dC HR.o.2 K;clear K;go_wp2_with fail;go_ret;exact⟨by rw[Z.o];rfl,L.o.step J.o⟩
 | 8,_ =>
  have ix:=(lix _ rfl wr).2.2.2.2.2.2.2.2
  go_wp2_with (first|(refine za8 rfl 212 _ _ rfl wr.heap.size 212 #[nI 0,.nilFunc] #[nI 198,.func (.func 141) #[] #[]] (by rfl) (by rfl) (za3 _ _) wd2 rfl (by simp[Value.oneCell']) ?_;obtain⟨X,gL,R,D,G⟩:=zk4 wr #[nI 198,.func (.func 141) #[] #[]];rw[R.1,R.2];clear R;obtain⟨q0,q1,W,a1⟩:=zd1 G.o.1;have I:=G.o.2;obtain⟨p0,p1,p2,p3,p4,p5,p6,p7,p8,O⟩:=CH (Ok.row' D.o HC.o))|fail)
  refine mq (a3.o _ (L.o.step D.o)) λw2 d=>?_;have J:=hid (D.o.step d);have r1:=d.cell (p:=⟨gL,0,none⟩) I q0;have l2:=lL_ I d.le;clear d p0 p1 p2 p3 p4 p5 p6 p7 p8 O ix q0 q1 W a1
  cases K:CZ c ts 8 with
  | true =>
   have Z:=hid K;clear K;go_wp2_with fail;exact⟨⟨9,rfl,oM,HR.o.1.step J.o,zg1 HR.o.2 Z.o⟩,by decide⟩
  | false =>
   have Z:Hi (AK c ts=198):=zg0 dC HR.o.2 K;clear K;go_wp2_with fail;go_ret;exact⟨by rw[Z.o];rfl,L.o.step J.o⟩
 | 9,_ =>
  go_wp2_with fail;go_ret;exact⟨by rw[yd8 HR.o.2];rfl,L.o⟩
 | k+10,h=>exact absurd h oM
end Go.Proofs.YthoegkcpmgalbaaGreatDoor
