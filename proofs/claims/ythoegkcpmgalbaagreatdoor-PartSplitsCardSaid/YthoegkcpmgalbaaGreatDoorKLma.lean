import Derived.Test.YthoegkcpmgalbaaGreatDoorKLk
set_option maxHeartbeats 8000000
set_option linter.all false
set_option maxRecDepth 100000
namespace Go.Proofs.YthoegkcpmgalbaaGreatDoor
open Go.RowKit
variable{P:RP}{a a' a2 a6 a7 k row:Nat}{b6 b7 bad' bad2:Int}{f:ByteArray×Int->Value}{s:ByteArray}{t:List UInt8}{w w':World}
def zd8{ops:Array Oper}{D:List Oper}{O:Oper}{a:Act}{Q:Exit->Act->World->Prop}(G:O.guard=none)(s x:Operand)
  (ho:O.op=.call { callee:=.builtin .append,args:=#[s,x],argTypes:=#[25,25] })
  (base:Nat) (L:Value) (k:Nat) (A:List Nd) (hs:a.eval s=L) (d:w.ownsRow base 53 6 L k (ndL A))
  (B:Nat) (v:Value) (ts:List Nd) (W:a.eval x=v) (hT:NL w B v ts)
  (hb:k+ts.length<=1000000) (o:base<=w.heap.size)
  (h:∀R w',w'.ownsRow base 53 6 R (k+ts.length) (ndL (A++ts))->w.grownBy w' L.ownBlock->wpList Tryz.prog ops Q D (a.put O.dst R) w'):wpList Tryz.prog ops Q (O::D) a w:=by
 obtain⟨i,X,hz,K,J⟩:=zg6 wn8;rcases hT.2 with ⟨rfl,h0⟩ | ⟨g,cap,a3,rfl,a4,hg,a5,a8,b0,a9⟩
 ·have I:ts=[]:=cX.1 h0
  subst I;refine wpList_append_own_none G s x 25 ho base 53 i 6 Tryz.underlying25 X _ k (ndL A) hs d W ?_;exact h L w (by rw[bD];exact d) (World.grownBy.refl w _)
 by_cases hm:0<ts.length
 ·refine wpList_append_lies w G s x 25 ho base 53 i _ 6 56 Tryz.underlying25 X hz K J rfl dC _ k (ndL A) hs d ⟨g,0,none⟩ ts.length cap (ndL ts) W (zu2 ts) (hT.cells rfl) (zu3 ts) hm (by unfold maxLen;omega) oM o _ rfl ?_
  intro g' a1 w' Y Z k3 k4;exact h _ w' (by rw[zL4];exact Y) Z
 have I:ts=[]:=cX.1 oM;subst I;refine wpList_append_own_at w G s x 25 ho base 53 i _ 6 56 Tryz.underlying25 X hz K J rfl (by decide) _ k (ndL A) hs d ⟨g,0,none⟩ 0 cap [] W rfl (by intro j u hj;simp at hj) (by simp) (by unfold maxLen;omega) oM o ?_;intro R w' Y Z k3 k4;exact h R w' (by rw[zL4];exact Y) Z
def HD(w:World)(hv:Value)(ps:List (Value×List Nd)):Prop:=w.ownsRow 0 25 1 hv ps.length (ps.map Prod.fst)/\∀p∈ps,NL w 0 p.1 p.2
def held(ps:List (Value×List Nd)):List Nd:=(ps.map λp=>p.2.map DK).flatten
def BJ(n:Nd)(ps:List (Value×List Nd)):List Nd:={ n with depth:=1 }::held ps
def zu4{ps:List (Value×List Nd)}{p:Value×List Nd}(h:ps[k]?=some p):held (ps.take (k+1))=held (ps.take k)++p.2.map DK:=by unfold held;rw[dH,h,fH,dB,dG];simp
def yA5{ps:List (Value×List Nd)}(k:Nat):(held (ps.take k)).length<=(held ps).length:=by
 have:held ps=held (ps.take k)++held (ps.drop k):=by unfold held;rw[<-dG,<-dB,dZ]
 rw[this,aA];omega
def NI(w:World)(n1:Nd)(ps:List (Value×List Nd))(wr:World)(v:Value)(N0 k:Nat):Prop:=Ok w wr/\wr.ownsRow w.heap.size 53 6 v N0 (ndL (n1::held (ps.take k)))/\N0=1+(held (ps.take k)).length
def NI.more{wr w1 w4:World}{o:Nd}{ps:List (Value×List Nd)}{v G:Value}{N0:Nat}{p:Value×List Nd}(h:NI w o ps wr v N0 k)(D:ps[k]?=some p)(d:Ok wr w1)(K:w4.ownsRow w.heap.size 53 6 G (N0+(p.2.map DK).length) (ndL ((o::held (ps.take k))++p.2.map DK)))(J:w1.grownBy w4 v.ownBlock):NI w o ps w4 G (N0+(p.2.map DK).length) (k+1):=by
 refine⟨(h.1.step d).grown J (λb I=>(h.2.1.lt b I).1),?_,?_⟩
 ·rw[zu4 D,<-cE];exact K
 rw[zu4 D,aA,h.2.2];omega
def zc3(w:World)(n:Nd)(hv:Value)(ps:List (Value×List Nd))(h:HD w hv ps)(hl:1+(held ps).length<=1000000)(a9:ps.length<=1000) :
  Calls Tryz.prog 75 #[.agg #[nI n.depth,nI n.kind,.string n.name,nI n.num,nI n.op,nI n.pos],hv] w λe w'=>∃v',e=.returned v'/\NL w' w.heap.size v' (BJ n ps)/\Ok w w':=by
 obtain⟨ao,cap,rfl⟩:=za0 h.1;have H:=hid h;clear h;obtain⟨dp,L,nm,nu,K,J⟩:=n;go_enter Tryz.func75,Tryz.ntmps75;go_wp2_with fail;obtain⟨W,d⟩:=qq ((w.alloc (.cells #[nI 1,nI L,.string nm,nI nu,nI K,nI J] 53)).alloc (.cells #[nI 1,nI L,.string nm,nI nu,nI K,nI J] 53));rw[<-d]
 have HW:Hi (NI w ⟨1,L,nm,nu,K,J⟩ ps W (.slice (some ⟨w.heap.size+1,0,none⟩) 1 1) 1 0):=by refine⟨by rw[d];exact((Ok.refl w).alloc _).alloc _,⟨rfl,.inr ⟨w.heap.size+1,1,#[nI 1,nI L,.string nm,nI nu,nI K,nI J],rfl,Nat.le_succ _,?_,aK _,by decide,rfl,rfl⟩⟩,rfl⟩;rw[d];exact heap_at _ _ _ (by simp)
 clear d;go_loopw [5,6] (λo x wr=>∃(k N0:Nat) (Z:Option Addr) (Y:Nat),k<=ps.length/\o=.slice Z N0 Y/\x=nI (k:Nat)/\Hi (NI w ⟨1,L,nm,nu,K,J⟩ ps wr (.slice Z N0 Y) N0 k)) (λ_ x _=>((ps.length:Int)-intOf x).toNat)
 case atStart=>exact⟨0,1,_,_,zL_ _,rfl,rfl,HW⟩
 obtain⟨k,N0,Z,Y,hk,rfl,rfl,I⟩:=hrel;by_cases G:k<ps.length
 ·have X:(k:Int)<(ps.length:Int):=za5 G
  have b1:IntKind.i64.wrap ((k:Int)+1)=((k+1:Nat):Int):=zb3 oM;obtain⟨p,D⟩:∃p,ps[k]?=some p:=⟨ps[k],gG_ G⟩
  obtain⟨g,a5⟩:∃g,ao=some ⟨g,0,none⟩:=by
   obtain⟨g,c,e,_⟩:=H.o.1.form oM
   injection e with e1
   exact⟨g,e1⟩
  subst a5;have a3:=(H.o.1.lt g rfl).2;have d:=za1 H.o.1 I.o.1;have c0:=d.cells (g:=g) rfl k p.1 (by rw[aX,D];rfl);rw[zb7,aL]at c0;have b0:g<wr.heap.size:=lL_ a3 I.o.1.le;have HP:=hid D;have a8:=hid (za1 (H.o.2 p (mG_ D)) I.o.1)
  have HB:Hi (p.2.length<=1000000/\N0+(p.2.map DK).length<=1000000):=by have h1:=yA5 (ps:=ps) (k+1);rw[zu4 D,aA,aM]at h1;have:=I.o.2.2;rw[Hi,aM];omega
  clear d D;obtain⟨pv,pn⟩:=p;simp only at c0
  go_wp2_with (first
   |(go_at_call 114;refine(zV7 _ 0 pv pn a8.o HB.o.1).mono ?_;rintro e w1 ⟨v1,rfl,O,R⟩;have a4:=hid O;have HK:=hid R;clear O R)
   |(at_builtin;refine zd8 rfl _ _ rfl w.heap.size _ N0 _ (by rfl) (za1 I.o.2.1 HK.o) wr.heap.size v1 (pn.map DK) (by rfl) a4.o HB.o.2 (aH I.o.1.le HK.o.le) ?_;intro v4 w4 d D;have a1:=hid (NI.more I.o HP.o HK.o d D);obtain⟨o4,c4,rfl⟩:=za0 d;clear d D)
   | fail)
  go_roundw
  case rel=>exact⟨k+1,_,_,_,G,rfl,rfl,(by have h:=a1.o;rw[aM]at h;exact h)⟩
  case measure=>exact we3 G
 have X:¬(k:Int)<(ps.length:Int):=zb2 G;have d:k=ps.length:=oM;subst d
 have O:Hi (NL wr w.heap.size (.slice Z N0 Y) (BJ ⟨dp,L,nm,nu,K,J⟩ ps)):=by have h1:=I.o.2.1;have D:=I.o.2.2;rw[cH]at h1 D;unfold Hi NL BJ;rw[aR,Nat.add_comm,<-D];exact h1
 go_wp2_with fail;go_ret;exact⟨_,rfl,O.o,I.o.1⟩
def wc0:List (List (ByteArray×Int)):=[[(⟨#[124,124]⟩,15)],[(⟨#[38,38]⟩,14)],[(⟨#[60]⟩,8),(⟨#[60,61]⟩,9),(⟨#[62]⟩,10),(⟨#[62,61]⟩,11),(⟨#[61,61]⟩,12),(⟨#[33,61]⟩,13)],[(⟨#[43]⟩,3),(⟨#[45]⟩,4)],[(⟨#[42]⟩,5),(⟨#[47]⟩,6),(⟨#[37]⟩,7)]]
def vS(p:ByteArray×Int):Value:=.string p.1
def vI(p:ByteArray×Int):Value:=nI p.2
def TB(w':World)(b:Nat)(f:ByteArray×Int->Value):Prop:=b+5<w'.heap.size/\∀r L,wc0[r]?=some L->w'.cell? ⟨b+5,r,none⟩=some (.slice (some ⟨b+r,0,none⟩) L.length L.length)/\∀j p,L[j]?=some p->w'.cell? ⟨b+r,j,none⟩=some (f p)
def zj6{g:Nat}{L:List (ByteArray×Int)}{t:TypeId}(h:w'.heap[g]?=some (.cells (L.map f).toArray t (0,0))):∀j p,L[j]?=some p->w'.cell? (aD g j)=some (f p):=by intro j p d;refine(cell_of_row _ _ j _ _ _ h).trans ?_;rw[fQ,aX,d];rfl
def TB.mk{b:Nat}{t u:TypeId}(G:w'.heap[b]?=some (.cells ((wc0[0]).map f).toArray t (0,0)))(O:w'.heap[b+1]?=some (.cells ((wc0[1]).map f).toArray t (0,0)))(K:w'.heap[b+2]?=some (.cells ((wc0[2]).map f).toArray t (0,0)))(R:w'.heap[b+3]?=some (.cells ((wc0[3]).map f).toArray t (0,0)))(J:w'.heap[b+4]?=some (.cells ((wc0[4]).map f).toArray t (0,0)))
  (D:w'.heap[b+5]?=some (.cells #[.slice (sA b 0) 1 1,.slice (some ⟨b+1,0,none⟩) 1 1,.slice (some ⟨b+2,0,none⟩) 6 6,.slice (some ⟨b+3,0,none⟩) 2 2,.slice (some ⟨b+4,0,none⟩) 3 3] u (0,0))):TB w' b f:=by
 refine⟨za2 D,?_⟩;intro r L d;have I:r<5:=(aE.1 d).1;have o:=cell_of_row _ _ r _ _ _ D;rcases(by omega:r=0\/r=1\/r=2\/r=3\/r=4) with rfl | rfl | rfl | rfl | rfl
 ·cases d;exact⟨o,zj6 G⟩
 ·cases d;exact⟨o,zj6 O⟩
 ·cases d;exact⟨o,zj6 K⟩
 ·cases d;exact⟨o,zj6 R⟩
 cases d;exact⟨o,zj6 J⟩
def TB.ok{b:Nat}(h:TB w b f)(o:Ok w w'):TB w' b f:=by refine⟨lL_ h.1 o.le,λr L d=>?_⟩;have G:r<5:=(aE.1 d).1;have:=h.1;exact⟨o.cell (p:=⟨b+5,r,none⟩) h.1 (h.2 r L d).1,λj p D=>o.cell (p:=⟨b+r,j,none⟩) (show b+r<w.heap.size by omega) ((h.2 r L d).2 j p D)⟩
def yr2(w:World) :
  Calls Tryz.prog 149 #[] w λe w'=>e=.returned (.slice (some ⟨w.heap.size+5,0,none⟩) 5 5)/\TB w' w.heap.size vS/\Ok w w':=by
 go_enter Tryz.func149,Tryz.ntmps149;go_wp2_with fail;go_ret;refine⟨rfl,TB.mk (t:=9) (u:=26) ?_ ?_ ?_ ?_ ?_ ?_,((((((Ok.refl w).alloc _).alloc _).alloc _).alloc _).alloc _).alloc _⟩
 all_goals repeat (first | exact heap_at _ _ _ (by simp) | refine heap_past _ _ _ (by first|(simp;done) | (simp;omega)) ?_)
def yA6(w:World) :
  Calls Tryz.prog 150 #[] w λe w'=>e=.returned (.slice (some ⟨w.heap.size+5,0,none⟩) 5 5)/\TB w' w.heap.size vI/\Ok w w':=by
 go_enter Tryz.func150,Tryz.ntmps150;go_wp2_with fail;go_ret;refine⟨rfl,TB.mk (t:=3) (u:=28) ?_ ?_ ?_ ?_ ?_ ?_,((((((Ok.refl w).alloc _).alloc _).alloc _).alloc _).alloc _).alloc _⟩
 all_goals repeat (first | exact heap_at _ _ _ (by simp) | refine heap_past _ _ _ (by first|(simp;done) | (simp;omega)) ?_)
def opF(P:RP)(a:Nat)(bad:Int):List (ByteArray×Int)->Int
 | []=>0
 | p::r=>if isS P a bad p.1.toList then p.2 else opF P a bad r
def opS(P:RP)(a:Nat)(bad:Int)(row:Nat):Int:=match wc0[row]? with | some L=>opF P a bad L | none=>0
def yr3{bad:Int}{L:List (ByteArray×Int)}{p:ByteArray×Int}(h:L[k]?=some p):opF P a bad (L.drop k)=if isS P a bad p.1.toList then p.2 else opF P a bad (L.drop (k+1)):=by obtain⟨d,e⟩:=aE.1 h;rw[aP d,e];rfl
def yf7{bad:Int}:∀{L:List (ByteArray×Int)},opF P a bad L≠0->bad<0/\a<P.ts.length
 | [],h=>absurd rfl h
 | p::r,h=>by
  unfold opF at h
  split at h
  ·next hi=>exact zb9 hi
  exact yf7 h
def zm4(P:RP)(Z:Nat)(w:World)(a:Nat)(bad:Int)(row:Nat)(X:row<5)(h:RI P Z w a bad) :
  Calls Tryz.prog 116 #[pA Z 0,nI (row:Nat)] w λe w'=>e=.returned (nI (opS P a bad row))/\Ok w w':=by
 have H:=hid h;clear h;obtain⟨L,D⟩:∃L,wc0[row]?=some L:=⟨wc0[row],gG_ X⟩;have Y:=hid D;obtain⟨I,d⟩:=qq (opS P a bad row);rw[<-d];have HA:Hi (I=opF P a bad L):=by unfold Hi;rw[d];unfold opS;rw[D]
 have b0:L.length<=6:=by rcases(by omega:row=0\/row=1\/row=2\/row=3\/row=4) with rfl | rfl | rfl | rfl | rfl<;>(cases D;decide)
 clear D d;have a3:(row:Int)<5:=oM;go_enter Tryz.func116,Tryz.ntmps116
 go_wp2_with (first|(go_at_call 149;refine mq (yr2 _) λw1 ⟨D,d⟩=>?_;have HK:=hid d;have HT:=hid D;have J:=D.1;have K:=(D.2 row L Y.o).1;clear D d)|fail)
 go_loopw [6] (λx wr=>∃(k:Nat),k<=L.length/\x=nI (k:Nat)/\Hi (I=opF P a bad (L.drop k)/\Ok w wr/\TB wr w.heap.size vS)) (λx _=>((L.length:Int)-intOf x).toNat)
 case atStart=>exact⟨0,zL_ _,rfl,HA.o,HK.o,HT.o⟩
 obtain⟨k,hk,rfl,G⟩:=hrel;clear J K;by_cases J:k<L.length
 ·have W:(k:Int)<(L.length:Int):=za5 J
  have b2:IntKind.i64.wrap ((k:Int)+1)=((k+1:Nat):Int):=zb3 oM;obtain⟨p,K⟩:∃p,L[k]?=some p:=⟨L[k],gG_ J⟩;have HP:=hid K;have a9:w.heap.size+row<wr.heap.size:=oH G.o.2.2.1
  have c0:wr.cell? ⟨w.heap.size+row,k,none⟩=some (.string p.1):=(G.o.2.2.2 row L Y.o).2 k p K;have HD:=yr3 (P:=P) (a:=a) (bad:=bad) K;clear K
  cases O:isS P a bad p.1.toList with
  | true =>
   have HI:=hid O;have R:Hi (I=p.2):=by unfold Hi;rw[G.o.1,HD,O];rfl
   clear O HD
   go_wp2_with (first
    |(go_at_call 44;refine mq (zb1 P Z _ a bad p.1 (H.o.ok G.o.2.1)) λw1 d=>?_;rw[HI.o];have K:=hid d;clear d)
    |(go_at_call 150;refine mq (yA6 _) λw2 ⟨D,d⟩=>?_;have a1:=hid d;have a4:=D.1;have b1:=(D.2 row L Y.o).1;have a8:w2.cell? ⟨w1.heap.size+row,k,none⟩=some (nI p.2):=(D.2 row L Y.o).2 k p HP.o;have a5:w1.heap.size+row<w2.heap.size:=oM;clear D d)
    | fail)
   go_ret;exact⟨by rw[R.o];rfl,(G.o.2.1.step K.o).step a1.o⟩
  | false =>
   have HI:=hid O;have R:Hi (I=opF P a bad (L.drop (k+1))):=by unfold Hi;rw[G.o.1,HD,O];rfl
   clear O HD
   go_wp2_with (first
    |(go_at_call 44;refine mq (zb1 P Z _ a bad p.1 (H.o.ok G.o.2.1)) λw1 d=>?_;rw[HI.o];have K:=hid d;clear d)
    | fail)
   go_roundw
   case rel=>exact⟨k+1,J,rfl,R.o,G.o.2.1.step K.o,G.o.2.2.ok K.o⟩
   case measure=>exact we3 J
 have W:¬(k:Int)<(L.length:Int):=zb2 J;have R:Hi (I=0):=by unfold Hi;rw[G.o.1,cP oM];rfl
 go_wp2_with fail;go_ret;exact⟨by rw[R.o];rfl,G.o.2.1⟩
def ndS(n:Nd)(ls:List (List Nd)):List Nd:={ n with depth:=1 }::(ls.map λl=>l.map DK).flatten
def CF(P:RP)(a:Nat)(bad:Int):Bool:=decide (bad<0)&&match P.ts[a]? with | none=>false | some x=>x.1==1
def nuS(P:RP)(a:Nat):Int:=match P.ts[a]? with | some x=>x.2.2.1 | none=>0
def naT(P:RP)(a:Nat)(bad:Int):ByteArray:=if CN P a bad then ⟨(txS P a).toArray⟩ else ⟨#[]⟩
def naA(P:RP)(a:Nat)(bad:Int):Nat:=if CN P a bad then a+1 else a
def naB(P:RP)(a:Nat)(bad:Int):Int:=if CN P a bad then bad else AF P a bad
def tkA(P:RP)(a:Nat)(bad:Int)(t:List UInt8):Nat:=if isS P a bad t then a+1 else a
def tkB(P:RP)(a:Nat)(bad:Int)(t:List UInt8):Int:=if isS P a bad t then bad else AF P a bad
def loF(P:RP)(g:Nat->Int->List Nd×Nat×Int)(row:Nat):Nat->List Nd->Nat->Int->List Nd×Nat×Int
 | 0,l,a,bad=>(l,a,bad)
 | k+1,l,a,bad =>
  if opS P a bad row=0 then (l,a,bad)
  else if row=2 then (ndS ⟨0,15,⟨#[]⟩,0,opS P a bad row,(plS P a:Nat)⟩ [l,(g (a+1) bad).1],(g (a+1) bad).2.1,(g (a+1) bad).2.2)
  else loF P g row k (ndS ⟨0,15,⟨#[]⟩,0,opS P a bad row,(plS P a:Nat)⟩ [l,(g (a+1) bad).1]) (g (a+1) bad).2.1 (g (a+1) bad).2.2
def atF(P:RP)(g:Nat->Int->List Nd×Nat×Int)(a:Nat)(bad:Int):List Nd×Nat×Int :=
 if CF P a bad then (ndS ⟨0,10,⟨#[]⟩,nuS P a,0,(plS P a:Nat)⟩ [],a+1,bad)
 else if isS P a bad [116,114,117,101] then (ndS ⟨0,11,⟨#[]⟩,1,0,(plS P a:Nat)⟩ [],a+1,bad)
 else if isS P a bad [102,97,108,115,101] then (ndS ⟨0,11,⟨#[]⟩,0,0,(plS P a:Nat)⟩ [],a+1,bad)
 else if isS P a bad [40] then ((g (a+1) bad).1,tkA P (g (a+1) bad).2.1 (g (a+1) bad).2.2 [41],tkB P (g (a+1) bad).2.1 (g (a+1) bad).2.2 [41])
 else if CN P a bad then
  if isS P (a+1) bad [91] then (ndS ⟨0,13,naT P a bad,0,0,(plS P a:Nat)⟩ [(g (a+2) bad).1],tkA P (g (a+2) bad).2.1 (g (a+2) bad).2.2 [93],tkB P (g (a+2) bad).2.1 (g (a+2) bad).2.2 [93])
  else (ndS ⟨0,12,naT P a bad,0,0,(plS P a:Nat)⟩ [],a+1,bad)
 else ([],a,AF P a bad)
def exF(P:RP):Nat->Nat->Nat->Int->List Nd×Nat×Int
 | 0,_,a,bad=>([],a,bad)
 | f+1,md,a,bad =>
  if md<5 then loF P (exF P f (md+1)) md f (exF P f (md+1) a bad).1 (exF P f (md+1) a bad).2.1 (exF P f (md+1) a bad).2.2
  else if md=5 then exF P f 6 a bad
  else if md=6 then
   if isS P a bad [45] then (ndS ⟨0,14,⟨#[]⟩,0,1,(plS P a:Nat)⟩ [(exF P f 6 (a+1) bad).1],(exF P f 6 (a+1) bad).2.1,(exF P f 6 (a+1) bad).2.2)
   else if isS P a bad [33] then (ndS ⟨0,14,⟨#[]⟩,0,2,(plS P a:Nat)⟩ [(exF P f 6 (a+1) bad).1],(exF P f 6 (a+1) bad).2.1,(exF P f 6 (a+1) bad).2.2)
   else exF P f 7 a bad
  else atF P (exF P f 0) a bad
def ExS(P:RP)(md a:Nat)(bad:Int)(ns:List Nd)(a':Nat)(bad':Int):Prop:=∀f,(P.ts.length-a)*10+(9-md)<=f->exF P f md a bad=(ns,a',bad')
def LoS(P:RP)(row a:Nat)(bad:Int)(l:List Nd)(a1:Nat)(bad1:Int):Prop:=∀f,(P.ts.length-a)*10+(8-row)<=f->∃k,P.ts.length-a1<=k/\exF P (f+1) row a bad=loF P (exF P f (row+1)) row k l a1 bad1
def fuel{n f:Nat}(h:n+1<=f):∃g,f=g+1/\n<=g:=⟨f-1,oM,oM⟩
def ExS.five{bad:Int}{ns:List Nd}(h:ExS P 6 a bad ns a' bad'):ExS P 5 a bad ns a' bad':=by intro f d;obtain⟨g,rfl,o⟩:=fuel d;rw[exF,aC oM,aG rfl];exact h g oM
def LoS.begin{bad:Int}{ns:List Nd}(d:row<5)(h:ExS P (row+1) a bad ns a' bad')(o:a<=a'):LoS P row a bad ns a' bad':=by intro f D;refine⟨f,oM,?_⟩;rw[exF,aG d,h f oM]
def LoS.fin{bad:Int}{ns:List Nd}(G:row<5)(h:LoS P row a bad ns a' bad')(d:opS P a' bad' row=0):ExS P row a bad ns a' bad':=by
 intro f D;obtain⟨g,rfl,o⟩:=fuel (n:=(P.ts.length-a)*10+(8-row)) (f:=f) oM;obtain⟨k,I,e⟩:=h g o;rw[e]
 cases k with
 | zero=>rfl
 | succ k=>rw[loF,aG d]
def LoS.next{bad:Int}{l D:List Nd}{o:Nat}{d:Int}(W:row<5)(L:row≠2)(h:LoS P row a bad l o d)(K:a<=o)(I:opS P o d row≠0)(R:o<P.ts.length)(J:ExS P (row+1) (o+1) d D a2 bad2)(G:o+1<=a2):LoS P row a bad (ndS ⟨0,15,⟨#[]⟩,0,opS P o d row,(plS P o:Nat)⟩ [l,D]) a2 bad2:=by intro f O;obtain⟨k,X,e⟩:=h f O;obtain⟨k,rfl,_⟩:=fuel (n:=0) (f:=k) oM;refine⟨k,oM,?_⟩;rw[e,loF,aC I,aC L,J f oM]
def LoS.two{bad:Int}{l D:List Nd}{o:Nat}{d:Int}(h:LoS P 2 a bad l o d)(J:a<=o)(G:opS P o d 2≠0)(L:o<P.ts.length)(I:ExS P 3 (o+1) d D a2 bad2):ExS P 2 a bad (ndS ⟨0,15,⟨#[]⟩,0,opS P o d 2,(plS P o:Nat)⟩ [l,D]) a2 bad2:=by intro f O;obtain⟨g,rfl,K⟩:=fuel (n:=(P.ts.length-a)*10+(8-2)) (f:=f) oM;obtain⟨k,R,e⟩:=h g K;obtain⟨k,rfl,_⟩:=fuel (n:=0) (f:=k) oM;rw[e,loF,aC G,aG rfl,I g oM]
def ExS.neg{bad:Int}{ns:List Nd}(d:isS P a bad [45]=true)(D:a<P.ts.length)(h:ExS P 6 (a+1) bad ns a' bad'):ExS P 6 a bad (ndS ⟨0,14,⟨#[]⟩,0,1,(plS P a:Nat)⟩ [ns]) a' bad':=by intro f G;obtain⟨g,rfl,o⟩:=fuel (n:=(P.ts.length-a)*10+2) (f:=f) oM;rw[exF,aC oM,aC oM,aG rfl,aG d,h g oM]
def ExS.exc{bad:Int}{ns:List Nd}(d:isS P a bad [45]=false)(o:isS P a bad [33]=true)(G:a<P.ts.length)(h:ExS P 6 (a+1) bad ns a' bad'):ExS P 6 a bad (ndS ⟨0,14,⟨#[]⟩,0,2,(plS P a:Nat)⟩ [ns]) a' bad':=by intro f I;obtain⟨g,rfl,D⟩:=fuel (n:=(P.ts.length-a)*10+2) (f:=f) oM;rw[exF,aC oM,aC oM,aG rfl,d,aC (by simp),aG o,h g oM]
def ExS.atom{bad:Int}{ns:List Nd}(o:isS P a bad [45]=false)(d:isS P a bad [33]=false)(h:ExS P 7 a bad ns a' bad'):ExS P 6 a bad ns a' bad':=by intro f G;obtain⟨g,rfl,D⟩:=fuel (n:=(P.ts.length-a)*10+2) (f:=f) oM;rw[exF,aC oM,aC oM,aG rfl,o,d,aC (by simp),aC (by simp)];exact h g oM
def ExS.at{bad:Int}{r:List Nd×Nat×Int}(h:∀g,(P.ts.length-a)*10+1<=g->atF P (exF P g 0) a bad=r):ExS P 7 a bad r.1 r.2.1 r.2.2:=by intro f o;obtain⟨g,rfl,d⟩:=fuel (n:=(P.ts.length-a)*10+1) (f:=f) oM;rw[exF,aC oM,aC oM,aC oM];exact h g d
def ExS.num{bad:Int}{x:Tk}(o:bad<0)(d:P.ts[a]?=some x)(I:x.1=1):ExS P 7 a bad (ndS ⟨0,10,⟨#[]⟩,x.2.2.1,0,(plS P a:Nat)⟩ []) (a+1) bad:=by
 have G:CF P a bad=true:=by unfold CF;rw[d,aV o];simp[I]
 have D:nuS P a=x.2.2.1:=by unfold nuS;rw[d]
 exact ExS.at (r:=(_,_,_)) λg _=>by rw[atF,aG G,D];rfl
def zo1{bad:Int}{x:Tk}(o:P.ts[a]?=some x)(d:¬x.1=1):CF P a bad=false:=by unfold CF;rw[o];simp[d]
def ExS.tru{bad:Int}(d:CF P a bad=false)(o:isS P a bad [116,114,117,101]=true):ExS P 7 a bad (ndS ⟨0,11,⟨#[]⟩,1,0,(plS P a:Nat)⟩ []) (a+1) bad :=
 ExS.at (r:=(_,_,_)) λg _=>by rw[atF,d,o];rfl
def ExS.fls{bad:Int}(d:CF P a bad=false)(D:isS P a bad [116,114,117,101]=false)(o:isS P a bad [102,97,108,115,101]=true):ExS P 7 a bad (ndS ⟨0,11,⟨#[]⟩,0,0,(plS P a:Nat)⟩ []) (a+1) bad :=
 ExS.at (r:=(_,_,_)) λg _=>by rw[atF,d,D,o];rfl
def ExS.paren{bad:Int}{d:List Nd}(I:t=[41])(L:a<P.ts.length)(G:CF P a bad=false)(D:isS P a bad [116,114,117,101]=false)(J:isS P a bad [102,97,108,115,101]=false)(o:isS P a bad [40]=true)(h:ExS P 0 (a+1) bad d a2 bad2):ExS P 7 a bad d (if isS P a2 bad2 t then a2+1 else a2) (if isS P a2 bad2 t then bad2 else AF P a2 bad2) :=
 ExS.at (r:=(_,_,_)) λg K=>by subst I;rw[atF,G,D,J,o,h g oM];rfl
def ExS.nil{bad:Int}(D:CF P a bad=false)(o:isS P a bad [116,114,117,101]=false)(I:isS P a bad [102,97,108,115,101]=false)(d:isS P a bad [40]=false)(G:CN P a bad=false):ExS P 7 a bad [] a (AF P a bad) :=
 ExS.at (r:=(_,_,_)) λg J=>by rw[atF,D,o,I,d,G];rfl
def ExS.read{bad:Int}(D:CF P a bad=false)(o:isS P a bad [116,114,117,101]=false)(K:isS P a bad [102,97,108,115,101]=false)(d:isS P a bad [40]=false)(G:CN P a bad=true)(I:isS P (a+1) bad [91]=false)(J:s=naT P a bad):ExS P 7 a bad (ndS ⟨0,12,s,0,0,(plS P a:Nat)⟩ []) (a+1) bad :=
 ExS.at (r:=(_,_,_)) λg L=>by rw[atF,D,o,K,d,G,I,J];rfl
def ExS.load{bad:Int}{d:List Nd}(K:t=[93])(W:a<P.ts.length)(G:CF P a bad=false)(D:isS P a bad [116,114,117,101]=false)(O:isS P a bad [102,97,108,115,101]=false)(o:isS P a bad [40]=false)(I:CN P a bad=true)(J:isS P (a+1) bad [91]=true)(L:s=naT P a bad)(h:ExS P 0 (a+2) bad d a2 bad2):ExS P 7 a bad (ndS ⟨0,13,s,0,0,(plS P a:Nat)⟩ [d]) (if isS P a2 bad2 t then a2+1 else a2) (if isS P a2 bad2 t then bad2 else AF P a2 bad2) :=
 ExS.at (r:=(_,_,_)) λg R=>by subst K;rw[atF,G,D,O,o,I,J,L,h g oM];rfl
def zq8{bad:Int}(h:s.toList=(if CN P a bad then txS P a else [])):s=naT P a bad:=by
 have e:s=⟨s.toList.toArray⟩:=by rw[ByteArray.toList_eq]
 rw[e,h];unfold naT
 cases CN P a bad<;>rfl
def exA(P:RP)(a:Nat)(bad:Int):List Nd×Nat×Int:=exF P (P.ts.length*10+10) 0 a bad
def ExS.all{bad:Int}{ns:List Nd}(h:ExS P 0 a bad ns a' bad'):exA P a bad=(ns,a',bad'):=h _ oM
def blF(P:RP)(g:Nat->Int->List Nd×Nat×Int):Nat->List Nd->Nat->Int->List Nd×Nat×Int
 | 0,l,a,bad=>(l,a,bad)
 | k+1,l,a,bad=>if decide (bad<0) && !isS P a bad [125] then blF P g k (l++(g a bad).1) (g a bad).2.1 (g a bad).2.2 else (l,a,bad)
def blE(P:RP)(a:Nat)(r:List Nd×Nat×Int):List Nd×Nat×Int:=(ndS ⟨0,9,⟨#[]⟩,0,0,(plS P a:Nat)⟩ [r.1],tkA P r.2.1 r.2.2 [125],tkB P r.2.1 r.2.2 [125])
def nsF(P:RP)(a:Nat)(s:ByteArray)(a1:Nat)(b1:Int):List Nd×Nat×Int :=
 if isS P a1 b1 [91] then
  let i:=exA P (a1+1) b1
  let a2:=tkA P i.2.1 i.2.2 [93]
  let b2:=tkB P i.2.1 i.2.2 [93]
  let v:=exA P (tkA P a2 b2 [58,61]) (tkB P a2 b2 [58,61])
  (ndS ⟨0,3,s,0,0,(plS P a:Nat)⟩ [i.1,v.1],tkA P v.2.1 v.2.2 [59],tkB P v.2.1 v.2.2 [59])
 else
  let v:=exA P (tkA P a1 b1 [58,61]) (tkB P a1 b1 [58,61])
  (ndS ⟨0,2,s,0,0,(plS P a:Nat)⟩ [v.1],tkA P v.2.1 v.2.2 [59],tkB P v.2.1 v.2.2 [59])
def smF(P:RP)(g:Nat->Int->List Nd×Nat×Int)(a:Nat)(bad:Int):List Nd×Nat×Int :=
 if isS P a bad [105,110,112,117,116] then (ndS ⟨0,4,naT P (a+1) bad,0,0,(plS P a:Nat)⟩ [],tkA P (naA P (a+1) bad) (naB P (a+1) bad) [59],tkB P (naA P (a+1) bad) (naB P (a+1) bad) [59])
 else if isS P a bad [97,115,115,101,114,116] then
  (ndS ⟨0,5,⟨#[]⟩,0,0,(plS P a:Nat)⟩ [(exA P (a+1) bad).1],tkA P (exA P (a+1) bad).2.1 (exA P (a+1) bad).2.2 [59],tkB P (exA P (a+1) bad).2.1 (exA P (a+1) bad).2.2 [59])
 else if isS P a bad [115,107,105,112] then (ndS ⟨0,6,⟨#[]⟩,0,0,(plS P a:Nat)⟩ [],tkA P (a+1) bad [59],tkB P (a+1) bad [59])
 else if isS P a bad [119,104,105,108,101] then
  let l:=exA P (a+1) bad
  let b:=g l.2.1 l.2.2
  (ndS ⟨0,8,⟨#[]⟩,0,0,(plS P a:Nat)⟩ [l.1,b.1],b.2.1,b.2.2)
 else if isS P a bad [105,102] then
  let l:=exA P (a+1) bad
  let b:=g l.2.1 l.2.2
  if isS P b.2.1 b.2.2 [101,108,115,101] then
   let c:=g (b.2.1+1) b.2.2
   (ndS ⟨0,7,⟨#[]⟩,0,0,(plS P a:Nat)⟩ [l.1,b.1,c.1],c.2.1,c.2.2)
  else (ndS ⟨0,7,⟨#[]⟩,0,0,(plS P a:Nat)⟩ [l.1,b.1],b.2.1,b.2.2)
 else nsF P a (naT P a bad) (naA P a bad) (naB P a bad)
def stF(P:RP):Nat->Nat->Nat->Int->List Nd×Nat×Int
 | 0,_,a,bad=>([],a,bad)
 | f+1,md,a,bad=>if md=0 then smF P (stF P f 1) a bad else blE P a (blF P (stF P f 0) f [] (tkA P a bad [123]) (tkB P a bad [123]))
def StS(P:RP)(a:Nat)(bad:Int)(ns:List Nd)(a':Nat)(bad':Int):Prop:=∀f,(P.ts.length-a)*10+2<=f->stF P f 0 a bad=(ns,a',bad')
def BkS(P:RP)(a:Nat)(bad:Int)(ns:List Nd)(a':Nat)(bad':Int):Prop:=∀f,(P.ts.length-a)*10+5<=f->stF P f 1 a bad=(ns,a',bad')
def BlS(P:RP)(a:Nat)(bad:Int)(l:List Nd)(a1:Nat)(bad1:Int):Prop:=∀f,(P.ts.length-a)*10+4<=f->∃k,(P.ts.length-a1)*2+(if bad1<0 then 1 else 0)<=k/\stF P (f+1) 1 a bad=blE P a (blF P (stF P f 0) k l a1 bad1)
def BlS.begin{bad:Int}(d:isS P a bad [123]=true)(G:a<P.ts.length):BlS P a bad [] (a+1) bad:=by
 intro f I;refine⟨f,by split<;>omega,?_⟩;have D:tkA P a bad [123]=a+1:=by unfold tkA;rw[d];rfl
 have o:tkB P a bad [123]=bad:=by unfold tkB;rw[d];rfl
 rw[stF,aC oM,D,o]
def BlS.next{ac:Nat}{bad d:Int}{l o:List Nd}(h:BlS P a bad l ac d)(J:a<=ac)(D:d<0)(K:isS P ac d [125]=false)(O:StS P ac d o a2 bad2)(hg:ac<a2\/0<=bad2)(G:ac<=a2)(I:a2<=P.ts.length):BlS P a bad (l++o) a2 bad2:=by
 intro f L;obtain⟨k,R,e⟩:=h f L;rw[aG D]at R;obtain⟨k,rfl,_⟩:=fuel (n:=0) (f:=k) oM;refine⟨k,?_,?_⟩
 ·split
  ·rcases hg with hg | hg<;>omega
  omega
 rw[e,blF,aV D,K,aG (by rfl),O f oM]
def BlS.fin{ac:Nat}{bad d:Int}{l:List Nd}(G:t=[125])(h:BlS P a bad l ac d)(hb:¬d<0\/isS P ac d [125]=true):BkS P a bad (ndS ⟨0,9,⟨#[]⟩,0,0,(plS P a:Nat)⟩ [l]) (if isS P ac d t then ac+1 else ac) (if isS P ac d t then d else AF P ac d):=by
 intro f I;obtain⟨g,rfl,o⟩:=fuel (n:=(P.ts.length-a)*10+4) (f:=f) oM;obtain⟨k,J,e⟩:=h g o;subst G;rw[e]
 have D:(decide (d<0) && !isS P ac d [125])=false:=by
  rcases hb with hb | hb
  ·rw[aN hb];rfl
  rw[hb];simp
 cases k with
 | zero=>rfl
 | succ k=>rw[blF,D];rfl
def BkS.bad{bad b0:Int}(d:isS P a bad [123]=false)(o:b0=AF P a bad)(L:0<=b0):BkS P a bad (ndS ⟨0,9,⟨#[]⟩,0,0,(plS P a:Nat)⟩ [[]]) a b0:=by
 intro f O;obtain⟨g,rfl,K⟩:=fuel (n:=(P.ts.length-a)*10+4) (f:=f) oM;have I:tkA P a bad [123]=a:=by unfold tkA;rw[d];rfl
 have G:tkB P a bad [123]=b0:=by unfold tkB;rw[d,o];rfl
 have J:isS P a b0 [125]=false:=by unfold isS;rw[aN oM];rfl
 have D:AF P a b0=b0:=by unfold AF;rw[aC oM]
 rw[stF,aC oM,I,G];obtain⟨g,rfl,_⟩:=fuel (n:=0) (f:=g) oM;rw[blF,aN oM];unfold blE tkA tkB;simp only[J,D,dY,bL,cT]
def StS.of{bad:Int}{r:List Nd×Nat×Int}(h:∀g,(P.ts.length-a)*10+1<=g->smF P (stF P g 1) a bad=r):StS P a bad r.1 r.2.1 r.2.2:=by intro f o;obtain⟨g,rfl,d⟩:=fuel (n:=(P.ts.length-a)*10+1) (f:=f) oM;rw[stF,aG rfl];exact h g d
def StS.input{bad:Int}(d:t=[59])(D:isS P a bad [105,110,112,117,116]=true)(o:s=naT P (a+1) bad):StS P a bad (ndS ⟨0,4,s,0,0,(plS P a:Nat)⟩ []) (tkA P (naA P (a+1) bad) (naB P (a+1) bad) t) (tkB P (naA P (a+1) bad) (naB P (a+1) bad) t) :=
 StS.of (r:=(_,_,_)) λg _=>by rw[smF,D,o,d];rfl
def StS.assert{bad:Int}{d:List Nd}(G:t=[59])(D:isS P a bad [105,110,112,117,116]=false)(I:isS P a bad [97,115,115,101,114,116]=true)(o:ExS P 0 (a+1) bad d a6 b6):StS P a bad (ndS ⟨0,5,⟨#[]⟩,0,0,(plS P a:Nat)⟩ [d]) (tkA P a6 b6 t) (tkB P a6 b6 t) :=
 StS.of (r:=(_,_,_)) λg _=>by rw[smF,D,I,o.all,G];rfl
def StS.skip{bad:Int}(d:t=[59])(G:isS P a bad [105,110,112,117,116]=false)(o:isS P a bad [97,115,115,101,114,116]=false)(D:isS P a bad [115,107,105,112]=true):StS P a bad (ndS ⟨0,6,⟨#[]⟩,0,0,(plS P a:Nat)⟩ []) (tkA P (a+1) bad t) (tkB P (a+1) bad t) :=
 StS.of (r:=(_,_,_)) λg _=>by rw[smF,G,o,D,d];rfl
def StS.while{bad:Int}{d o:List Nd}(W:a<P.ts.length)(K:isS P a bad [105,110,112,117,116]=false)(O:isS P a bad [97,115,115,101,114,116]=false)(G:isS P a bad [115,107,105,112]=false)(L:isS P a bad [119,104,105,108,101]=true)(J:ExS P 0 (a+1) bad d a6 b6)(I:a+1<=a6)(D:BkS P a6 b6 o a7 b7):StS P a bad (ndS ⟨0,8,⟨#[]⟩,0,0,(plS P a:Nat)⟩ [d,o]) a7 b7 :=
 StS.of (r:=(_,_,_)) λg R=>by rw[smF,K,O,G,L,J.all];simp only[bL,cT,dD];rw[D g oM];rfl
def StS.ifs{bad:Int}{d o:List Nd}(Y:a<P.ts.length)(K:isS P a bad [105,110,112,117,116]=false)(W:isS P a bad [97,115,115,101,114,116]=false)(G:isS P a bad [115,107,105,112]=false)(O:isS P a bad [119,104,105,108,101]=false)(R:isS P a bad [105,102]=true)(J:ExS P 0 (a+1) bad d a6 b6)(I:a+1<=a6)(D:BkS P a6 b6 o a7 b7)(L:isS P a7 b7 [101,108,115,101]=false):StS P a bad (ndS ⟨0,7,⟨#[]⟩,0,0,(plS P a:Nat)⟩ [d,o]) a7 b7 :=
 StS.of (r:=(_,_,_)) λg X=>by rw[smF,K,W,G,O,R,J.all];simp only[bL,cT,dD];rw[D g oM];simp only[L,bL,cT];rfl
def StS.ifelse{bad:Int}{d G J:List Nd}{D:Nat}{o:Int}(ha:a<P.ts.length)(X:isS P a bad [105,110,112,117,116]=false)(h3:isS P a bad [97,115,115,101,114,116]=false)(O:isS P a bad [115,107,105,112]=false)(Z:isS P a bad [119,104,105,108,101]=false)(h6:isS P a bad [105,102]=true)(L:ExS P 0 (a+1) bad d a6 b6)(R:a+1<=a6)(K:BkS P a6 b6 G a7 b7)(I:a6<=a7)(Y:isS P a7 b7 [101,108,115,101]=true)(W:BkS P (a7+1) b7 J D o):StS P a bad (ndS ⟨0,7,⟨#[]⟩,0,0,(plS P a:Nat)⟩ [d,G,J]) D o :=
 StS.of (r:=(_,_,_)) λg hg=>by rw[smF,X,h3,O,Z,h6,L.all];simp only[bL,cT,dD];rw[K g oM];simp only[Y,dD];rw[W g oM];rfl
def wp6(P:RP)(a:Nat)(bad:Int):Prop:=isS P a bad [105,110,112,117,116]=false/\isS P a bad [97,115,115,101,114,116]=false/\isS P a bad [115,107,105,112]=false/\isS P a bad [119,104,105,108,101]=false/\isS P a bad [105,102]=false
def StS.named{bad:Int}{r:List Nd×Nat×Int}(h:wp6 P a bad)(d:nsF P a (naT P a bad) (naA P a bad) (naB P a bad)=r):StS P a bad r.1 r.2.1 r.2.2 :=
 StS.of λg o=>by rw[smF,h.1,h.2.1,h.2.2.1,h.2.2.2.1,h.2.2.2.2];exact d
def StS.input2{bad:Int}(o:t=[59])(G:isS P a bad [105,110,112,117,116]=true)(D:s=naT P (a+1) bad)(d:a6=naA P (a+1) bad/\b6=naB P (a+1) bad):StS P a bad (ndS ⟨0,4,s,0,0,(plS P a:Nat)⟩ []) (tkA P a6 b6 t) (tkB P a6 b6 t):=by rw[d.1,d.2];exact StS.input o G D
def StS.assign{a3 a4 a5:Nat}{bad G d I:Int}{o:List Nd}(h:wp6 P a bad)(D:CN P a bad=true)(X:isS P (a+1) bad [91]=false)(W:s=naT P a bad)(K:a3=tkA P (a+1) bad [58,61]/\G=tkB P (a+1) bad [58,61])(L:exA P a3 G=(o,a4,d))(J:a5=tkA P a4 d [59]/\I=tkB P a4 d [59]):StS P a bad (ndS ⟨0,2,s,0,0,(plS P a:Nat)⟩ [o]) a5 I:=by
 refine StS.named (r:=(_,_,_)) h ?_;have R:naA P a bad=a+1:=by unfold naA;rw[D];rfl
 have O:naB P a bad=bad:=by unfold naB;rw[D];rfl
 rw[nsF,R,O,X,<-K.1,<-K.2,L,<-W,J.1,J.2];rfl
def StS.store{a4 a5 a8:Nat}{bad d D I:Int}{G O:List Nd}(h:wp6 P a bad)(J:CN P a bad=true)(h8:isS P (a+1) bad [91]=true)(Z:s=naT P a bad)(W:exA P (a+2) bad=(G,a4,d))(K:a5=tkA P a4 d [93]/\D=tkB P a4 d [93])(L:a6=tkA P a5 D [58,61]/\b6=tkB P a5 D [58,61])(o:exA P a6 b6=(O,a7,b7))(R:a8=tkA P a7 b7 [59]/\I=tkB P a7 b7 [59]):StS P a bad (ndS ⟨0,3,s,0,0,(plS P a:Nat)⟩ [G,O]) a8 I:=by
 refine StS.named (r:=(_,_,_)) h ?_;have Y:naA P a bad=a+1:=by unfold naA;rw[J];rfl
 have X:naB P a bad=bad:=by unfold naB;rw[J];rfl
 rw[nsF,Y,X,h8,W];simp only[dD];rw[<-K.1,<-K.2,<-L.1,<-L.2,o,<-Z,R.1,R.2];rfl
def StS.noname{bad b0:Int}(h:wp6 P a bad)(D:CN P a bad=false)(R:s=naT P a bad)(I:b0=AF P a bad)(W:0<=b0)(J:exA P a b0=([],a,b0)):StS P a bad (ndS ⟨0,2,s,0,0,(plS P a:Nat)⟩ [[]]) a b0:=by
 refine StS.named (r:=(_,_,_)) h ?_;have O:naA P a bad=a:=by unfold naA;rw[D];rfl
 have K:naB P a bad=b0:=by unfold naB;rw[D,I];rfl
 have d:∀t,isS P a b0 t=false:=λt=>by unfold isS;rw[aN oM];rfl
 have L:AF P a b0=b0:=by unfold AF;rw[aC oM]
 have G:∀t,tkA P a b0 t=a:=λt=>by unfold tkA;rw[d];rfl
 have o:∀t,tkB P a b0 t=b0:=λt=>by unfold tkB;rw[d,L];rfl
 rw[nsF,O,K,d];simp only[bL,cT];rw[G,o,J,<-R];simp only[G,o];rfl
end Go.Proofs.YthoegkcpmgalbaaGreatDoor
