import Derived.Test.YthoegkcpmgalbaaGreatDoorKTe
set_option maxHeartbeats 8000000
set_option linter.all false
set_option maxRecDepth 100000
namespace Go.Proofs.YthoegkcpmgalbaaGreatDoor
open Go.RowKit
def zg7(v:Value)(ns:List Nd)(hT:FX ns)(hl:ns.length<=1000):∀(i:Nat) (w:World),DF w v ns->i<ns.length->(2<=kdA ns i/\kdA ns i<=8) ->
  Calls Tryz.prog 52 #[v,nI (i:Nat)] w λe w'=>e=.returned (nI (BH ns i:Nat))/\Ok w w':=by
 intro i
 induction i using Nat.strongRecOn with
 | ind i ih =>
  intro w h hi I;have IH:Hi (∀g,g<i->∀W,Ok w W->(2<=kdA ns g/\kdA ns g<=8)->Calls Tryz.prog 52 #[v,nI (g:Nat)] W λe w'=>e=.returned (nI (BH ns g:Nat))/\Ok W w'):=λg hg W hW c6=>ih g hg W (h.below hW) oM c6;have D:Hi (∀W,Ok w W->DF W v ns):=λW hW=>h.below hW;clear ih;obtain⟨_,ao,cap,rfl,_,_,G⟩:=h;obtain⟨b,o,rfl,d⟩:=G.resolve_left (λe=>by rw[e]at hi;simp at hi);have HN:=hid d;have K:Hi (i<ns.length/\ns.length<=1000):=⟨hi,hl⟩;have a7:Hi _:=yC6 hT hi I;clear d G;obtain⟨r,Z⟩:=qq (BH ns i);rw[<-Z];rw[wl8 hi]at Z;obtain⟨en,d⟩:=qq (AC ns i);rw[<-d]at Z;have a6:Hi (en=AC ns i):=d;have d3:(i:Int)<(ns.length:Int):=za5 hi;obtain⟨ni,G⟩:∃n,ns[i]?=some n:=⟨_,gG_ hi⟩;have a9:=hid G;rw[zc4 G]at Z;clear d G I;by_cases h1:en<ns.length;rotate_left;have b0:¬(en:Int)<(ns.length:Int):=zb2 h1;have c3:decide ((en:Int)<(ns.length:Int))=false:=dF_ b0;have c5:decide (en<ns.length)=false:=dF_ h1;rw[aC (λh=>h1 h.1)]at Z;rotate_left;have b0:(en:Int)<(ns.length:Int):=za5 h1;have c3:decide ((en:Int)<(ns.length:Int))=true:=dT_ b0;have c5:decide (en<ns.length)=true:=dT_ h1;obtain⟨nj,d⟩:∃n,ns[en]?=some n:=⟨_,gG_ h1⟩;have R:=hid d;rw[zc4 d,ze1 d]at Z;clear d;by_cases h2:nj.depth=ni.depth;rotate_left;have c4:decide (nj.depth=ni.depth)=false:=dF_ h2;rw[aC (λh=>h2 h.2.1)]at Z;rotate_left;rotate_left;have c4:decide (nj.depth=ni.depth)=true:=dT_ h2;by_cases h3:nj.kind=9;rotate_left
  ·have d1:decide (nj.kind=9)=false:=dF_ h3
   rw[aG ⟨h1,h2,h3⟩]at Z;have HQ:Hi _:=Z;clear Z a7;go_enter Tryz.func52,Tryz.ntmps52
   go_wp2_with (first
    |(go_at_call 87;refine mq (zk9 _ ns i _ (D.o _ (Ok.refl _)) K.o.1 (oH K.o)) λw1 d=>?_;have I:=hid d;rw[<-a6.o];have G:=HN.o.below d;have b6:=G.lt;have c0:=(G.get R.o).1;have c1:=(G.get R.o).2.1;have d0:=(G.get a9.o).1;clear G d)
    | fail)
   go_quiet (fail)
   go_wp2_with (first
    |(go_at_call 31;refine mq (zd2 _ ns en _ (D.o _ (I.o.draws _)) (oH K.o)) λw9 J=>?_;have Y:Hi (Ok w w9):=(I.o.draws _).step J;clear J)
    | fail)
   go_ret;exact⟨by rw[HQ.o];rfl,Y.o⟩
  rotate_left;rotate_left;have d1:decide (nj.kind=9)=true:=dT_ h3;rw[aC (λh=>h.2.2 h3)]at Z
  all_goals
   have HT:Hi _:=Z;clear Z;rcases a7.o with e0 | ⟨a,g,e0,a1,a2,a3,a4,e5,b1,b2,b3,b4⟩
   ·have HA:=hid e0
    have HQ:Hi (r=ptF ns ns.length):=by unfold Hi;rw[HT.o,e0,aG oM]
    clear e0 HT a7;go_enter Tryz.func52,Tryz.ntmps52
    go_wp2_with (first
     |(go_at_call 87;refine mq (zk9 _ ns i _ (D.o _ (Ok.refl _)) K.o.1 (oH K.o)) λw1 d=>?_;have I:=hid d;rw[<-a6.o];have G:=HN.o.below d;have b6:=G.lt;(try (have c0:=(G.get R.o).1;have c1:=(G.get R.o).2.1;have d0:=(G.get a9.o).1));clear G d)
     | fail)
    go_quiet (fail)
    go_wp2_with (first
     |(go_at_call_of 88 ((i:Int));refine mq (ze2 _ ns i _ (D.o _ (I.o.draws _)) K.o.1 (oH K.o)) λw2 L=>?_;have O:Hi (Ok w w2):=(I.o.draws _).step L;rw[HA.o];clear L)
     |(go_at_call 31;refine mq (zd2 _ ns ns.length _ (D.o _ (O.o)) (oH K.o)) λw9 J=>?_;have Y:=hid ((O.o).step J);clear J)
     | fail)
    go_ret;exact⟨by rw[HQ.o];rfl,Y.o⟩
   have HA:=hid e0;have HG:=hid e5;have c7:a<ns.length:=oH K.o.1
   have b8:g<ns.length:=oM;have d2:(g:Int)<(ns.length:Int):=za5 b8;have c2:¬(a:Int)<0:=oM;obtain⟨ng,b5⟩:∃n,ns[g]?=some n:=⟨_,gG_ b8⟩;have b7:=hid b5;have b9:=hid (ze1 b5);have a8:Hi (a<ns.length/\g<i/\(2<=kdA ns g/\kdA ns g<=8)):=⟨c7,oM,oM⟩;have ht:=HT.o;rw[e0,aC c2,aO,e5,aO,b9.o]at ht;clear HT a7 e0 e5 a1 a2 a3 a4 b1 b2 b3 b4 b5;by_cases h8:ng.kind=8
   ·have c9:decide (ng.kind=8)=true:=dT_ h8
    have HQ:Hi (r=ptF ns g):=by unfold Hi;rw[ht,aG h8]
    clear ht;go_enter Tryz.func52,Tryz.ntmps52
    go_wp2_with (first
     |(go_at_call 87;refine mq (zk9 _ ns i _ (D.o _ (Ok.refl _)) K.o.1 (oH K.o)) λw1 d=>?_;have I:=hid d;rw[<-a6.o];have G:=HN.o.below d;have b6:=G.lt;(try (have c0:=(G.get R.o).1;have c1:=(G.get R.o).2.1;have d0:=(G.get a9.o).1));clear G d)
     | fail)
    go_quiet (fail)
    go_wp2_with (first
     |(go_at_call_of 88 ((i:Int));refine mq (ze2 _ ns i _ (D.o _ (I.o.draws _)) K.o.1 (oH K.o)) λw2 L=>?_;have O:Hi (Ok w w2):=(I.o.draws _).step L;rw[HA.o];clear L)
     |(go_at_call_of 88 ((a:Int));refine mq (ze2 _ ns a _ (D.o _ O.o) a8.o.1 (oH K.o)) λw3 a5=>?_;have X:=hid (O.o.step a5);rw[HG.o];have M3:=HN.o.below X.o;have c8:=M3.lt;have g1:=(M3.get b7.o).2.1;clear M3 a5)
     |(go_at_call 31;refine mq (zd2 _ ns g _ (D.o _ (X.o)) (oH K.o)) λw9 J=>?_;have Y:=hid ((X.o).step J);clear J)
     | fail)
    go_ret;exact⟨by rw[HQ.o];rfl,Y.o⟩
   have c9:decide (ng.kind=8)=false:=dF_ h8;have HQ:Hi (r=BH ns g):=by unfold Hi;rw[ht,aC h8]
   clear ht;go_enter Tryz.func52,Tryz.ntmps52
   go_wp2_with (first
    |(go_at_call 87;refine mq (zk9 _ ns i _ (D.o _ (Ok.refl _)) K.o.1 (oH K.o)) λw1 d=>?_;have I:=hid d;rw[<-a6.o];have G:=HN.o.below d;have b6:=G.lt;(try (have c0:=(G.get R.o).1;have c1:=(G.get R.o).2.1;have d0:=(G.get a9.o).1));clear G d)
    | fail)
   go_quiet (fail)
   go_wp2_with (first
    |(go_at_call_of 88 ((i:Int));refine mq (ze2 _ ns i _ (D.o _ (I.o.draws _)) K.o.1 (oH K.o)) λw2 L=>?_;have O:Hi (Ok w w2):=(I.o.draws _).step L;rw[HA.o];clear L)
    |(go_at_call_of 88 ((a:Int));refine mq (ze2 _ ns a _ (D.o _ O.o) a8.o.1 (oH K.o)) λw3 a5=>?_;have X:=hid (O.o.step a5);rw[HG.o];have M3:=HN.o.below X.o;have c8:=M3.lt;have g1:=(M3.get b7.o).2.1;clear M3 a5)
    |(go_at_call 52;refine mq (IH.o g a8.o.2.1 _ X.o a8.o.2.2) λw9 J=>?_;have Y:=hid (X.o.step J);clear J)
    | fail)
   go_ret;exact⟨by rw[HQ.o];rfl,Y.o⟩
def yw2{ns:List Nd}(h:FX ns):∀{i:Nat},i<ns.length->AT ns i<=(i:Int)+1
 | 0,hi=>by
  have d:AT ns 0=1:=by rw[zc4 (aJ hi)];exact h.shp.first hi
  omega
 | i+1,hi=>by have d:=yw2 h (show i<ns.length by omega);have o:=h.step hi;omega
def zn5(v:Value)(ns:List Nd)(hT:FX ns)(hl:ns.length<=1000)(i g:Nat)(w:World)(h:DF w v ns)(hi:i<ns.length)(R:hdF ns i=(g:Int))(hg:g<ns.length)(X:2<=kdA ns g/\kdA ns g<=8) :
  Calls Tryz.prog 54 #[v,nI (i:Nat)] w λe w'=>e=.returned (nI (BG ns i:Nat))/\Ok w w':=by
 have I:Hi (∀W,Ok w W->DF W v ns):=λW hW=>h.below hW;obtain⟨_,ao,cap,rfl,_,_,D⟩:=h;obtain⟨b,o,rfl,d⟩:=D.resolve_left (λe=>by rw[e]at hi;simp at hi);have HN:=hid d;have M0:=d;have b5:=d.lt;have O:Hi (i<ns.length/\ns.length<=1000):=⟨hi,hl⟩;have a6:=hid hT;have HH:=hid R;have a2:Hi (g<ns.length/\(2<=kdA ns g/\kdA ns g<=8)):=⟨hg,X⟩;clear d D;obtain⟨r,J⟩:=qq (BG ns i);rw[<-J];unfold BG bgR at J;rw[R,aO]at J;have L:=yw2 hT hi;have G:=hT.dep hi;obtain⟨ni,D⟩:∃n,ns[i]?=some n:=⟨_,gG_ hi⟩;obtain⟨m,K⟩:∃m:Nat,AT ns i=(m:Int):=⟨(AT ns i).toNat,oM⟩;have d0:=(M0.get D).1;rw[<-zc4 D,K]at d0;rw[K]at J;have b6:IntKind.i64.wrap ((m:Int)+1)=((m+1:Nat):Int):=zb3 oM;have b3:IntKind.i64.wrap ((i:Int)+1)=((i+1:Nat):Int):=zb3 oM;have b4:(i:Int)<(ns.length:Int):=za5 hi;have b2:(g:Int)<(ns.length:Int):=za5 hg;obtain⟨ng,d⟩:∃n,ns[g]?=some n:=⟨_,gG_ hg⟩;have a1:=hid d;rw[ze1 d]at J;clear d D L G K X R;by_cases h1:i+1<ns.length
 ·have a3:((i+1:Nat):Int)<(ns.length:Int):=za5 h1
  have R:(i:Int)+1<(ns.length:Int):=oM;have a8:decide (((i+1:Nat):Int)<(ns.length:Int))=true:=dT_ a3;have b0:decide (i+1<ns.length)=true:=dT_ h1;have b1:decide ((i:Int)+1<(ns.length:Int))=true:=dT_ R;obtain⟨nj,d⟩:∃n,ns[i+1]?=some n:=⟨_,gG_ h1⟩;have c0:=(M0.get d).1;rw[zc4 d]at J;clear d M0;by_cases h2:nj.depth=((m+1:Nat):Int)
  ·have X:nj.depth=(m:Int)+1:=oM
   have a9:decide (nj.depth=((m+1:Nat):Int))=true:=dT_ h2;have a7:decide (nj.depth=(m:Int)+1)=true:=dT_ X;rw[aG ⟨h1,X⟩]at J;have Z:Hi (r=ptF ns (i+1)):=J;clear J;go_enter Tryz.func54,Tryz.ntmps54;go_wp2_with fail;go_quiet (fail)
   go_wp2_with (first
    |(go_at_call 31;refine mq (zd2 _ ns (i+1) _ (I.o _ ((Ok.refl _).draws _)) (oH O.o)) λw9 D=>?_;have K:Hi (Ok w w9):=((Ok.refl w).draws _).step D;clear D)
    | fail)
   go_ret;exact⟨by rw[Z.o];rfl,K.o⟩
  have X:¬nj.depth=(m:Int)+1:=oM;have a9:decide (nj.depth=((m+1:Nat):Int))=false:=dF_ h2;have a7:decide (nj.depth=(m:Int)+1)=false:=dF_ X;rw[aC (λh=>X h.2)]at J;by_cases Y:ng.kind=8
  ·have a5:decide (ng.kind=8)=true:=dT_ Y
   have Z:Hi (r=ptF ns g):=by unfold Hi;rw[J,aG Y]
   clear J;go_enter Tryz.func54,Tryz.ntmps54;go_wp2_with fail;go_quiet (fail)
   go_wp2_with (first
    |(go_at_call 88;refine mq (ze2 _ ns i _ (I.o _ ((Ok.refl _).draws _)) O.o.1 (oH O.o)) λw1 G=>?_;have d:Hi (Ok w w1):=((Ok.refl w).draws _).step G;rw[HH.o];have L:=HN.o.below d.o;have a4:=L.lt;have g1:=(L.get a1.o).2.1;clear L G)
    |(go_at_call 31;refine mq (zd2 _ ns g _ (I.o _ (d.o)) (oH O.o)) λw9 D=>?_;have K:=hid ((d.o).step D);clear D)
    | fail)
   go_ret;exact⟨by rw[Z.o];rfl,K.o⟩
  have a5:decide (ng.kind=8)=false:=dF_ Y;have Z:Hi (r=BH ns g):=by unfold Hi;rw[J,aC Y];rfl
  clear J;go_enter Tryz.func54,Tryz.ntmps54;go_wp2_with fail;go_quiet (fail)
  go_wp2_with (first
   |(go_at_call 88;refine mq (ze2 _ ns i _ (I.o _ ((Ok.refl _).draws _)) O.o.1 (oH O.o)) λw1 G=>?_;have d:Hi (Ok w w1):=((Ok.refl w).draws _).step G;rw[HH.o];have L:=HN.o.below d.o;have a4:=L.lt;have g1:=(L.get a1.o).2.1;clear L G)
   |(go_at_call 52;refine mq (zg7 _ ns a6.o O.o.2 g _ (I.o _ d.o) a2.o.1 a2.o.2) λw9 D=>?_;have K:=hid (d.o.step D);clear D)
   | fail)
  go_ret;exact⟨by rw[Z.o];rfl,K.o⟩
 have a3:¬((i+1:Nat):Int)<(ns.length:Int):=zb2 h1;have R:¬(i:Int)+1<(ns.length:Int):=oM;have a8:decide (((i+1:Nat):Int)<(ns.length:Int))=false:=dF_ a3;have b0:decide (i+1<ns.length)=false:=dF_ h1;have b1:decide ((i:Int)+1<(ns.length:Int))=false:=dF_ R;rw[aC (λh=>h1 h.1)]at J;clear M0;by_cases Y:ng.kind=8
 ·have a5:decide (ng.kind=8)=true:=dT_ Y
  have Z:Hi (r=ptF ns g):=by unfold Hi;rw[J,aG Y]
  clear J;go_enter Tryz.func54,Tryz.ntmps54;go_wp2_with fail;go_quiet (fail)
  go_wp2_with (first
   |(go_at_call 88;refine mq (ze2 _ ns i _ (I.o _ ((Ok.refl _).draws _)) O.o.1 (oH O.o)) λw1 G=>?_;have d:Hi (Ok w w1):=((Ok.refl w).draws _).step G;rw[HH.o];have L:=HN.o.below d.o;have a4:=L.lt;have g1:=(L.get a1.o).2.1;clear L G)
   |(go_at_call 31;refine mq (zd2 _ ns g _ (I.o _ (d.o)) (oH O.o)) λw9 D=>?_;have K:=hid ((d.o).step D);clear D)
   | fail)
  go_ret;exact⟨by rw[Z.o];rfl,K.o⟩
 have a5:decide (ng.kind=8)=false:=dF_ Y;have Z:Hi (r=BH ns g):=by unfold Hi;rw[J,aC Y];rfl
 clear J;go_enter Tryz.func54,Tryz.ntmps54;go_wp2_with fail;go_quiet (fail)
 go_wp2_with (first
  |(go_at_call 88;refine mq (ze2 _ ns i _ (I.o _ ((Ok.refl _).draws _)) O.o.1 (oH O.o)) λw1 G=>?_;have d:Hi (Ok w w1):=((Ok.refl w).draws _).step G;rw[HH.o];have L:=HN.o.below d.o;have a4:=L.lt;have g1:=(L.get a1.o).2.1;clear L G)
  |(go_at_call 52;refine mq (zg7 _ ns a6.o O.o.2 g _ (I.o _ d.o) a2.o.1 a2.o.2) λw9 D=>?_;have K:=hid (d.o.step D);clear D)
  | fail)
 go_ret;exact⟨by rw[Z.o];rfl,K.o⟩
def SL.many(w:World)(t:TypeId)(d:List Value){s n:Nat}(J:d.length=n*s)(G:∀u∈d,u.oneCell'=true):SL (w.alloc (.cells d.toArray t)) s (.slice (sA w.heap.size 0) n n) n d:=by refine⟨J,G,_,_,rfl,.inr ⟨_,_,rfl,by simp,λj u o=>?_⟩⟩;have I:=(aE.1 o).1;have D:(w.alloc (.cells d.toArray t)).heap[w.heap.size]?=some (.cells d.toArray t (0,0)):=heap_at _ _ _ sI;rw[aL];exact(cell_of_row _ _ j _ _ _ D).trans (by simpa using o)
def zI7(v:Value)(ns:List Nd)(hT:FX ns)(hl:ns.length<=1000)(i:Nat)(w:World)(h:DF w v ns)(I:i<ns.length)(hk:2<=kdA ns i/\kdA ns i<=8)(G:¬(kdA ns i=7\/kdA ns i=8)) :
  Calls Tryz.prog 33 #[v,nI (i:Nat)] w λe w'=>∃lv,e=.returned lv/\SL w' 6 lv (elR ns i).length (edL (elR ns i))/\Ok w w':=by
 have J:Hi (∀W,Ok w W->DF W v ns):=λW hW=>h.below hW;obtain⟨_,ao,cap,rfl,_,_,D⟩:=h;obtain⟨b,o,rfl,d⟩:=D.resolve_left (λe=>by rw[e]at I;simp at I);have HN:=hid d;have Z:Hi (i<ns.length/\ns.length<=1000):=⟨I,hl⟩;have L:=hid hT;have a1:=hid hk;clear d D;obtain⟨k,d⟩:=qq (kdA ns i);obtain⟨q,X⟩:=qq (ptF ns i);obtain⟨t,O⟩:=qq (BH ns i);have HQ:Hi (q=ptF ns i/\t=BH ns i):=⟨X,O⟩
 have HE:Hi (elR ns i=[⟨(q:Nat),(t:Nat),k-2,(i:Nat),false,false⟩]):=by unfold Hi elR;rw[aC G,X,O,d]
 rw[HE.o];rw[<-d]at G hk;have h7:¬k=7:=λe=>G (.inl e);have h8:¬k=8:=λe=>G (.inr e);have a4:decide (k=7)=false:=dF_ h7;have a8:decide (k=8)=false:=dF_ h8;have Y:(k != 7)=true:=by simpa using h7
 have R:(k != 8)=true:=by simpa using h8
 have a3:(k != 7&&k != 8)=true:=by rw[Y,R];rfl
 have a6:IntKind.i64.wrap (k-2)=k-2:=by rw[IntKind.wrap_i64];omega
 have a2:wrap64 (k-2)=k-2:=by unfold wrap64;omega
 have a5:(i:Int)<(ns.length:Int):=za5 I;obtain⟨ni,D⟩:∃n,ns[i]?=some n:=⟨_,gG_ I⟩;have K:Hi (ns[i]?=some ni/\ni.kind=k):=⟨D,by rw[d,ze1 D]⟩;clear D d X O G;go_enter Tryz.func33,Tryz.ntmps33
 go_wp2_with (first
  |(go_at_call 31;refine mq (zd2 _ ns i _ (J.o _ (Ok.refl _)) (oH Z.o)) λw1 D=>?_;have d:=hid D;have O:=HN.o.below d.o;have a7:=O.lt;have c1:=(O.get K.o.1).2.1;rw[K.o.2]at c1;rw[<-HQ.o.1];clear O D)
  |(go_at_call 52;refine mq (zg7 _ ns L.o Z.o.2 i _ (J.o _ d.o) Z.o.1 a1.o) λw2 G=>?_;have X:=hid (d.o.step G);rw[<-HQ.o.2];clear G)
  | fail)
 go_ret;exact⟨_,rfl,SL.many w2 98 (edL [⟨(q:Nat),(t:Nat),k-2,(i:Nat),false,false⟩]) (by rfl) (by simp[edL,edV,Value.oneCell']),X.o.alloc _⟩
def zj9{w:World}{B g cap:Nat}{n:Nat}{l:List Nat}(h:w.ownsRow B 3 1 (.slice (sA g 0) n cap) n (inL l))(k x:Nat)(d:l[k]?=some x):w.cell? (aD g k)=some (nI (x:Nat)):=by have:=h.cells (g:=g) rfl k _ (show(inL l)[k]?=some (nI (x:Nat)) by unfold inL;rw[aX,d];rfl);rw[zb7,aL]at this;exact this
def yl2(v:Value)(ns:List Nd)(hT:FX ns)(hl:ns.length<=1000)(i a:Nat)(w:World)(h:DF w v ns)(Y:i<ns.length)(G:kdA ns i=7)(O:hlF ns i=[i+1,a])(Z:hdF ns a=(i:Int))(J:a<ns.length) :
  Calls Tryz.prog 33 #[v,nI (i:Nat)] w λe w'=>∃lv,e=.returned lv/\SL w' 6 lv (elR ns i).length (edL (elR ns i))/\Ok w w':=by
 have D:Hi (∀W,Ok w W->DF W v ns):=λW hW=>h.below hW;obtain⟨_,ao,cap,rfl,_,_,I⟩:=h;obtain⟨b,o,rfl,d⟩:=I.resolve_left (λe=>by rw[e]at Y;simp at Y);have HN:=hid d;have L:Hi (i<ns.length/\ns.length<=1000):=⟨Y,hl⟩;have X:=hid hT;have a6:Hi (2<=kdA ns i/\kdA ns i<=8):=by unfold Hi;omega
 have b0:=hid O;clear d I;obtain⟨q,R⟩:=qq (ptF ns i);obtain⟨t,K⟩:=qq (BH ns i);obtain⟨t1,d⟩:=qq (BG ns a);have HQ:Hi (q=ptF ns i/\t=BH ns i/\t1=BG ns a):=⟨R,K,d⟩;have HA:Hi (hdF ns a=(i:Int)/\a<ns.length):=⟨Z,J⟩
 have HE:Hi (elR ns i=[⟨(q:Nat),(t1:Nat),5,((i+1:Nat):Int),true,false⟩,⟨(q:Nat),(t:Nat),5,((i+1:Nat):Int),false,false⟩]):=by unfold Hi elR;rw[aG oM,O,G,R,d,K];rfl
 rw[HE.o];have b3:(i:Int)<(ns.length:Int):=za5 Y;obtain⟨ni,I⟩:∃n,ns[i]?=some n:=⟨_,gG_ Y⟩;have a5:Hi (ns[i]?=some ni/\ni.kind=7):=⟨I,by rw[<-ze1 I,G]⟩;clear I G R K d Z J O;go_enter Tryz.func33,Tryz.ntmps33
 go_wp2_with (first
  |(go_at_call 31;refine mq (zd2 _ ns i _ (D.o _ (Ok.refl _)) (oH L.o)) λw1 Z=>?_;have J:=hid Z;have M1:=HN.o.below J.o;have b4:=M1.lt;have c1:=(M1.get a5.o.1).2.1;rw[a5.o.2]at c1;rw[<-HQ.o.1];clear M1 Z)
  |(go_at_call 53;refine(zw0 _ ns i _ (D.o _ J.o) L.o.1 L.o.2).mono ?_;rintro e w2 ⟨hv,rfl,G,a2⟩;have a4:=hid (J.o.step a2);rw[b0.o]at G;obtain⟨O,R,rfl,_⟩:=G.form (by simp);have a7:=hid G;clear G a2)
  |(go_at_call 52;refine mq (zg7 _ ns X.o L.o.2 i _ (D.o _ a4.o) L.o.1 a6.o) λw3 K=>?_;have a1:=hid (a4.o.step K);have d:=hid (za1 a7.o K);have b2:=(d.o.lt O rfl).2;rw[<-HQ.o.2.1];clear K)
  | fail)
 have l4:=(d.o.lt O rfl).2;have k0:w3.drew.cell? (aD O 0)=some (nI ((i+1:Nat):Int)):=zj9 d.o 0 _ rfl;have k1:w3.drew.cell? (aD O 1)=some (nI (a:Nat)):=zj9 d.o 1 _ rfl;have a9:=And.intro k0 k1
 go_region_held3 (λw'=>w'.cell? (aD O 0)=some (nI ((i+1:Nat):Int))/\w'.cell? (aD O 1)=some (nI (a:Nat)))
  (first|(with_reducible exact a8) | (with_reducible exact a9) | go_keep)
  (first
  |(go_at_call 54;refine(Calls.mono (zn5 _ ns X.o L.o.2 a i _ (D.o _ (a1.o.draws _)) HA.o.2 HA.o.1 L.o.1 a6.o) ?_);rintro e w5 ⟨rfl,I⟩;have b1:Hi (Ok w w5):=(a1.o.draws _).step I;have a3:Hi (w5.ownsRow w1.heap.size 3 1 (.slice (sA O 0) 2 R) 2 (inL [i+1,a])):=za1 d.o (Ok.step (by repeat (first | exact Ok.refl _ | refine Below.drew ?_)) I);have a8:=And.intro (zj9 a3.o 0 _ rfl) (zj9 a3.o 1 _ rfl);rw[<-HQ.o.2.2];clear I)
  | fail)
 go_wp2_with fail;go_ret;exact⟨_,rfl,SL.many w5 98 (edL [⟨(q:Nat),(t1:Nat),5,((i+1:Nat):Int),true,false⟩,⟨(q:Nat),(t:Nat),5,((i+1:Nat):Int),false,false⟩]) (by rfl) (by simp[edL,edV,Value.oneCell']),b1.o.alloc _⟩
def yl3(v:Value)(ns:List Nd)(hT:FX ns)(hl:ns.length<=1000)(i a s:Nat)(w:World)(h:DF w v ns)(hi:i<ns.length)(K:kdA ns i=7)(X:hlF ns i=[i+1,a,s])(ha:hdF ns a=(i:Int))(R:a<ns.length)(hs:hdF ns s=(i:Int))(O:s<ns.length) :
  Calls Tryz.prog 33 #[v,nI (i:Nat)] w λe w'=>∃lv,e=.returned lv/\SL w' 6 lv (elR ns i).length (edL (elR ns i))/\Ok w w':=by
 have d:Hi (∀W,Ok w W->DF W v ns):=λW hW=>h.below hW;obtain⟨_,ao,cap,rfl,_,_,G⟩:=h;obtain⟨b,o,rfl,D⟩:=G.resolve_left (λe=>by rw[e]at hi;simp at hi);have HN:=hid D;have I:Hi (i<ns.length/\ns.length<=1000):=⟨hi,hl⟩;have J:=hid hT;have Z:Hi (2<=kdA ns i/\kdA ns i<=8):=by unfold Hi;omega
 have b3:=hid X;clear D G;obtain⟨q,Y⟩:=qq (ptF ns i);obtain⟨t,ht⟩:=qq (BH ns i);obtain⟨t1,D⟩:=qq (BG ns a);obtain⟨s2,G⟩:=qq (BG ns s);have HQ:Hi (q=ptF ns i/\t=BH ns i/\t1=BG ns a):=⟨Y,ht,D⟩;have HA:Hi (hdF ns a=(i:Int)/\a<ns.length):=⟨ha,R⟩;have a1:Hi (s2=BG ns s/\hdF ns s=(i:Int)/\s<ns.length):=⟨G,hs,O⟩
 have HE:Hi (elR ns i=[⟨(q:Nat),(t1:Nat),5,((i+1:Nat):Int),true,false⟩,⟨(q:Nat),(s2:Nat),5,((i+1:Nat):Int),false,false⟩]):=by unfold Hi elR;rw[aG oM,X,K,Y,D,G];rfl
 rw[HE.o];have b6:(i:Int)<(ns.length:Int):=za5 hi;obtain⟨ni,L⟩:∃n,ns[i]?=some n:=⟨_,gG_ hi⟩;have a9:Hi (ns[i]?=some ni/\ni.kind=7):=⟨L,by rw[<-ze1 L,K]⟩;clear L K Y ht D ha R X G hs O;go_enter Tryz.func33,Tryz.ntmps33
 go_wp2_with (first
  |(go_at_call 31;refine mq (zd2 _ ns i _ (d.o _ (Ok.refl _)) (oH I.o)) λw1 a3=>?_;have O:=hid a3;have M1:=HN.o.below O.o;have b7:=M1.lt;have c1:=(M1.get a9.o.1).2.1;rw[a9.o.2]at c1;rw[<-HQ.o.1];clear M1 a3)
  |(go_at_call 53;refine(zw0 _ ns i _ (d.o _ O.o) I.o.1 I.o.2).mono ?_;rintro e w2 ⟨hv,rfl,G,a6⟩;have a8:=hid (O.o.step a6);rw[b3.o]at G;obtain⟨Y,a2,rfl,_⟩:=G.form (by simp);have b0:=hid G;clear G a6)
  |(go_at_call 52;refine mq (zg7 _ ns J.o I.o.2 i _ (d.o _ a8.o) I.o.1 Z.o) λw3 R=>?_;have a5:=hid (a8.o.step R);have X:=hid (za1 b0.o R);have b5:=(X.o.lt Y rfl).2;have d2:=zj9 X.o 2 _ rfl;rw[<-HQ.o.2.1];clear R)
  |(go_at_call 54;refine mq (zn5 _ ns J.o I.o.2 s i _ (d.o _ a5.o) a1.o.2.2 a1.o.2.1 I.o.1 Z.o) λw4 K=>?_;have a4:=hid (a5.o.step K);have D:=hid (za1 X.o K);rw[<-a1.o.1];clear K)
  | fail)
 have l4:=(D.o.lt Y rfl).2;have k0:w4.drew.cell? (aD Y 0)=some (nI ((i+1:Nat):Int)):=zj9 D.o 0 _ rfl;have k1:w4.drew.cell? (aD Y 1)=some (nI (a:Nat)):=zj9 D.o 1 _ rfl;have b2:=And.intro k0 k1
 go_region_held3 (λw'=>w'.cell? (aD Y 0)=some (nI ((i+1:Nat):Int))/\w'.cell? (aD Y 1)=some (nI (a:Nat)))
  (first|(with_reducible exact b1) | (with_reducible exact b2) | go_keep)
  (first
  |(go_at_call 54;refine(Calls.mono (zn5 _ ns J.o I.o.2 a i _ (d.o _ (a4.o.draws _)) HA.o.2 HA.o.1 I.o.1 Z.o) ?_);rintro e w5 ⟨rfl,L⟩;have b4:Hi (Ok w w5):=(a4.o.draws _).step L;have a7:Hi (w5.ownsRow w1.heap.size 3 1 (.slice (sA Y 0) 3 a2) 3 (inL [i+1,a,s])):=za1 D.o (Ok.step (by repeat (first | exact Ok.refl _ | refine Below.drew ?_)) L);have b1:=And.intro (zj9 a7.o 0 _ rfl) (zj9 a7.o 1 _ rfl);rw[<-HQ.o.2.2];clear L)
  | fail)
 go_wp2_with fail;go_ret;exact⟨_,rfl,SL.many w5 98 (edL [⟨(q:Nat),(t1:Nat),5,((i+1:Nat):Int),true,false⟩,⟨(q:Nat),(s2:Nat),5,((i+1:Nat):Int),false,false⟩]) (by rfl) (by simp[edL,edV,Value.oneCell']),b4.o.alloc _⟩
def yl4(v:Value)(ns:List Nd)(hT:FX ns)(hl:ns.length<=1000)(i a:Nat)(w:World)(h:DF w v ns)(Y:i<ns.length)(G:kdA ns i=8)(O:hlF ns i=[i+1,a])(Z:hdF ns a=(i:Int))(J:a<ns.length) :
  Calls Tryz.prog 33 #[v,nI (i:Nat)] w λe w'=>∃lv,e=.returned lv/\SL w' 6 lv (elR ns i).length (edL (elR ns i))/\Ok w w':=by
 have D:Hi (∀W,Ok w W->DF W v ns):=λW hW=>h.below hW;obtain⟨_,ao,cap,rfl,_,_,I⟩:=h;obtain⟨b,o,rfl,d⟩:=I.resolve_left (λe=>by rw[e]at Y;simp at Y);have HN:=hid d;have L:Hi (i<ns.length/\ns.length<=1000):=⟨Y,hl⟩;have X:=hid hT;have a6:Hi (2<=kdA ns i/\kdA ns i<=8):=by unfold Hi;omega
 have b0:=hid O;clear d I;obtain⟨q,R⟩:=qq (ptF ns i);obtain⟨t,K⟩:=qq (BH ns i);obtain⟨t1,d⟩:=qq (BG ns a);have HQ:Hi (q=ptF ns i/\t=BH ns i/\t1=BG ns a):=⟨R,K,d⟩;have HA:Hi (hdF ns a=(i:Int)/\a<ns.length):=⟨Z,J⟩
 have HE:Hi (elR ns i=[⟨(q:Nat),(t1:Nat),5,((i+1:Nat):Int),true,true⟩,⟨(q:Nat),(t:Nat),5,((i+1:Nat):Int),false,true⟩]):=by unfold Hi elR;rw[aG oM,O,G,R,d,K];rfl
 rw[HE.o];have b3:(i:Int)<(ns.length:Int):=za5 Y;obtain⟨ni,I⟩:∃n,ns[i]?=some n:=⟨_,gG_ Y⟩;have a5:Hi (ns[i]?=some ni/\ni.kind=8):=⟨I,by rw[<-ze1 I,G]⟩;clear I G R K d Z J O;go_enter Tryz.func33,Tryz.ntmps33
 go_wp2_with (first
  |(go_at_call 31;refine mq (zd2 _ ns i _ (D.o _ (Ok.refl _)) (oH L.o)) λw1 Z=>?_;have J:=hid Z;have M1:=HN.o.below J.o;have b4:=M1.lt;have c1:=(M1.get a5.o.1).2.1;rw[a5.o.2]at c1;rw[<-HQ.o.1];clear M1 Z)
  |(go_at_call 53;refine(zw0 _ ns i _ (D.o _ J.o) L.o.1 L.o.2).mono ?_;rintro e w2 ⟨hv,rfl,G,a2⟩;have a4:=hid (J.o.step a2);rw[b0.o]at G;obtain⟨O,R,rfl,_⟩:=G.form (by simp);have a7:=hid G;clear G a2)
  |(go_at_call 52;refine mq (zg7 _ ns X.o L.o.2 i _ (D.o _ a4.o) L.o.1 a6.o) λw3 K=>?_;have a1:=hid (a4.o.step K);have d:=hid (za1 a7.o K);have b2:=(d.o.lt O rfl).2;rw[<-HQ.o.2.1];clear K)
  | fail)
 have l4:=(d.o.lt O rfl).2;have k0:w3.drew.cell? (aD O 0)=some (nI ((i+1:Nat):Int)):=zj9 d.o 0 _ rfl;have k1:w3.drew.cell? (aD O 1)=some (nI (a:Nat)):=zj9 d.o 1 _ rfl;have a9:=And.intro k0 k1
 go_region_held3 (λw'=>w'.cell? (aD O 0)=some (nI ((i+1:Nat):Int))/\w'.cell? (aD O 1)=some (nI (a:Nat)))
  (first|(with_reducible exact a8) | (with_reducible exact a9) | go_keep)
  (first
  |(go_at_call 54;refine(Calls.mono (zn5 _ ns X.o L.o.2 a i _ (D.o _ (a1.o.draws _)) HA.o.2 HA.o.1 L.o.1 a6.o) ?_);rintro e w5 ⟨rfl,I⟩;have b1:Hi (Ok w w5):=(a1.o.draws _).step I;have a3:Hi (w5.ownsRow w1.heap.size 3 1 (.slice (sA O 0) 2 R) 2 (inL [i+1,a])):=za1 d.o (Ok.step (by repeat (first | exact Ok.refl _ | refine Below.drew ?_)) I);have a8:=And.intro (zj9 a3.o 0 _ rfl) (zj9 a3.o 1 _ rfl);rw[<-HQ.o.2.2];clear I)
  | fail)
 go_wp2_with fail;go_ret;exact⟨_,rfl,SL.many w5 98 (edL [⟨(q:Nat),(t1:Nat),5,((i+1:Nat):Int),true,true⟩,⟨(q:Nat),(t:Nat),5,((i+1:Nat):Int),false,true⟩]) (by rfl) (by simp[edL,edV,Value.oneCell']),b1.o.alloc _⟩
def zX4(v:Value)(ns:List Nd)(d:FX ns)(I:ns.length<=1000)(i:Nat)(w:World)(h:DF w v ns)(D:i<ns.length)(Y:2<=kdA ns i/\kdA ns i<=8) :
  Calls Tryz.prog 33 #[v,nI (i:Nat)] w λe w'=>∃R,e=.returned R/\SL w' 6 R (elR ns i).length (edL (elR ns i))/\Ok w w':=by
 by_cases G:kdA ns i=7\/kdA ns i=8
 ·obtain⟨t1,W,t3,t4,t5,Z⟩:=d.two D G
  have X:=ze8 (ns:=ns) (p:=i+1);have o:=(zc1 (ns:=ns) (p:=i) (q:=AC ns (i+1)) oM W).2;have K:=wj8 d (i:=AC ns (i+1)) (g:=i) oM W t3;rcases yw1 d D G with ⟨L,J⟩ | ⟨L,J⟩
  ·rcases G with h7 | h8
   ·exact yl2 v ns d I i _ w h D h7 J K o
   exact yl4 v ns d I i _ w h D h8 J K o
  rcases Z with e | ⟨q1,q2,q3,q4,q5⟩
  ·omega
  have O:=ze8 (ns:=ns) (p:=AC ns (i+1));exact yl3 v ns d I i _ _ w h D q1 J K o (wj8 d oM L q4) (zc1 (ns:=ns) (p:=i) oM L).2
 exact zI7 v ns d I i w h D Y G
end Go.Proofs.YthoegkcpmgalbaaGreatDoor
