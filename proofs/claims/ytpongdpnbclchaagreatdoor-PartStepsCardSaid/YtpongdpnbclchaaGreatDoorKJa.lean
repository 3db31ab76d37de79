import Derived.Test.YtpongdpnbclchaaGreatDoorKJd
import Derived.Test.YtpongdpnbclchaaGreatDoorKQi
set_option linter.all false
namespace Go.Proofs.YtpongdpnbclchaaGreatDoor
variable{B:Nat}{c:Nat->Int}{d g:Nat->Nat}{l m:Ls}{ns:List Nd}{ts:List Int}{w:World}
section
open Go.RowKit
def wo0(l:List UInt8)(ns:List Nd):Prop:=∃P:RP,DS l=.inr P.ts/\P.en=l.length/\(BY P).1=0/\(BY P).2.2=ns/\(AC ns).1=0
def wo1(l:List UInt8):Prop:=(∃p,DS l=.inl p)\/∃P:RP,DS l=.inr P.ts/\P.en=l.length/\((BY P).1=0->(AC (BY P).2.2).1≠0)
end
section
open Go.RowKit
def ns0:List Nd:=[⟨1,0,⟨#[120]⟩,0,0,0⟩,⟨1,7,⟨#[]⟩,0,0,7⟩,⟨2,15,⟨#[]⟩,0,10,12⟩,⟨3,12,⟨#[120]⟩,0,0,10⟩,⟨3,10,⟨#[]⟩,0,0,14⟩,⟨2,9,⟨#[]⟩,0,0,16⟩,⟨2,9,⟨#[]⟩,0,0,25⟩,⟨3,6,⟨#[]⟩,0,0,27⟩,⟨1,8,⟨#[]⟩,0,0,35⟩,⟨2,11,⟨#[]⟩,1,0,41⟩,⟨2,9,⟨#[]⟩,0,0,46⟩]
theorem zh6{α:Type}{f:α->α->Bool}(hf:∀a,f a a=true):∀(l:List α),AL f l l=true
 | []=>rfl
 | a::s=>by rw[AL,hf,zh6 hf s];rfl
theorem zK8(l:Ls):AY l l=true:=by
 unfold AY;have h1:∀a,EF a a=true:=λa=>by unfold EF;simp
 have h2:∀a,EM a a=true:=λa=>by unfold EM;simp
 have h3:∀a,DB a a=true:=λa=>by unfold DB;simp
 rw[zh6 h1,zh6 h2,zh6 h3,zh6 h3,zh6 h3];rfl
theorem yq0(hok:∀n∈ns,n.Ok)(h:(AC ns).1=0):CY ns (AC ns).2.2=true:=by rw[yj6 ns _ hok,h,zK8];rfl
end
section
open Go.RowKit
def wr4(k:Nat):List Value:=if k=0 then [nI (-7),nI 0,.string ⟨#[]⟩,nI 0,nI 0,nI 0] else if k=1 then [.string ⟨#[114,111,111,109]⟩] else if k=2 then [.string ⟨#[]⟩,nI (-7)] else [nI (-7)]
def cpV(ns:List Nd)(l:Ls)(g d:Nat->Nat)(k:Nat):Value:=.slice (some ⟨g k,0,none⟩) (nOf ns.length l k) (d k)
structure wr5(w:World)(B:Nat)(g d:Nat->Nat)(ns:List Nd)(l:Ls):Prop where
 row:∀k,k<6->w.ownsRow (B+2) (TY k) (SZ k) (.slice (some ⟨g k,0,none⟩) (nOf ns.length l k+1) (d k)) (nOf ns.length l k+1) (xOf ns ns.length l k++wr4 k)
 up:∀j k,j<k->k<6->g j<g k
theorem ye7(ns:List Nd)(l:Ls)(k:Nat)(hk:k<6):(xOf ns ns.length l k).length=nOf ns.length l k*SZ k:=by
 rcases(show k=0\/k=1\/k=2\/k=3\/k=4\/k=5 by omega) with rfl | rfl | rfl | rfl | rfl | rfl
 ·have e:xOf ns ns.length l 0=ndL ns:=by unfold xOf;rw[if_pos rfl,List.take_length];rfl
  rw[e];exact zu2 ns
 ·simp[xOf,nOf,SZ]
 ·exact zN2 l.ar
 ·simp[xOf,nOf,SZ]
 ·simp[xOf,nOf,SZ]
 simp[xOf,nOf,SZ]
theorem wr5.pr(h:wr5 w B g d ns l):BZ w B (cpV ns l g d) ns l:=λk hk =>
 za7 (yj8 (h.row k hk) (ye7 ns l k hk) (Nat.le_succ _)) (Nat.le_add_right _ _)
end
section
open Go.RowKit
def wg8(w:World)(B:Nat)(g d:Nat->Nat)(ns:List Nd)(m:Ls):Prop:=∀k,k<6->w.ownsRow B (TY k) (SZ k) (.slice (some ⟨g k,0,none⟩) (nOf ns.length m k+1) (d k)) (nOf ns.length m k+1) (xOf ns ns.length m k++wr4 k)
theorem wg8.pr(h:wg8 w B g d ns m):BZ w B (cpV ns m g d) ns m:=λk hk=>yj8 (h k hk) (ye7 ns m k hk) (Nat.le_succ _)
theorem wg8.room(h:wg8 w B g d ns m)(k:Nat)(hk:k<6):nOf ns.length m k+1<=d k/\d k<=maxLen:=yt8 (h k hk)
theorem wg8.ok{w':World}(h:wg8 w B g d ns m)(hk:Ok w w'):wg8 w' B g d ns m:=λk h6=>za1 (h k h6) hk
end
section
open Go.RowKit
theorem yF2(ns:List Nd):∀(t:List Nd) (i:Nat) (l:Ls),(AS ns t i l).1=0->(AS ns t i l).2.2.sy.length=l.sy.length+t.length/\(AS ns t i l).2.2.so.length=l.so.length+t.length/\(AS ns t i l).2.2.sc.length<=l.sc.length+t.length/\(AS ns t i l).2.2.ar.length<=l.ar.length+t.length/\(AS ns t i l).2.2.si.length<=l.si.length+t.length
 | [],i,l,_=>⟨rfl,rfl,nR_ _,nR_ _,nR_ _⟩
 | n::t,i,l,h=>by
  rw[AS]at h ⊢
  split at h
  ·next h0 =>
   rw[if_pos h0];have:=yF2 ns t (i+1) (BE ns i n l) h
   have k:(BE ns i n l).sy.length=l.sy.length+1/\(BE ns i n l).so.length=l.so.length+1/\(BE ns i n l).sc.length<=l.sc.length+1/\(BE ns i n l).ar.length<=l.ar.length+1/\(BE ns i n l).si.length<=l.si.length+1:=by
    unfold BE;simp only
    refine⟨by simp,by simp,?_,?_,?_⟩<;>(split<;>simp)
   rw[List.length_cons];omega
  next h0=>rw[if_neg h0] at *;exact absurd h h0
theorem yI4(h0:(AR ns rd0).1=0)(hok:∀n∈ns,n.Ok):ns.length<=300/\(BS (AR ns rd0).2.2).sy.length=ns.length/\(BS (AR ns rd0).2.2).so.length=ns.length/\(BS (AR ns rd0).2.2).sc.length<=100000/\(BS (AR ns rd0).2.2).ar.length<=100000/\(BS (AR ns rd0).2.2).si.length<=100000:=by
 have hl:=(zj1 ns h0).2;have hp:=zw4 ns hok;have hz:(AC ns).1=0:=by rw[hp];exact h0
 have e:(AC ns).2.2=BS (AR ns rd0).2.2:=by rw[hp]
 have hs:(CG ns).1=0:=by
  by_cases c:(CG ns).1=0
  ·exact c
  unfold AC at hz;rw[if_neg c]at hz;exact absurd hz c
 have hq:AC ns=AS ns ns 0 ⟨[],[],[],[],[]⟩:=by unfold AC;rw[if_pos hs]
 rw[<-e,hq];rw[hq]at hz;have:=yF2 ns ns 0 ⟨[],[],[],[],[]⟩ hz;simp only[List.length_nil,Nat.zero_add]at this;omega
theorem yq1{L:List Ed}{A Z:Nat}(h:wd4 L A Z):L.length<=2*(Z-A):=by
 obtain⟨bs,rfl,hn,hb⟩:=h
 have key:∀(cs:List (List Ed)),(∀c∈cs,c.length<=2)->cs.flatten.length<=2*cs.length:=by
  intro cs
  induction cs with
  | nil=>intro _;simp
  | cons c cs ih =>
   intro hc;have h1:=hc c List.mem_cons_self;have h2:=ih (λd hd=>hc d (List.mem_cons_of_mem _ hd));rw[List.flatten_cons,List.length_append,List.length_cons];omega
 have:=key bs (λc hc=>by
  obtain⟨i,hi,e⟩:=List.mem_iff_getElem.1 hc
  rcases hb i c (by rw[List.getElem?_eq_getElem hi,e]) with ⟨x,rfl,_⟩ | ⟨x,y,rfl,_⟩<;>simp)
 omega
theorem yz9(h:AM ns):(elF ns).length<=2*ptF ns ns.length:=by have:=yq1 (zC9 h).seg;omega
end
section
open Go.RowKit Go.Maps
def lwG(ns:List Nd)(l:Ls):Option (Nat×Nat×List Ed):=if CY ns l=true then some (ptF ns ns.length+1,ptF ns ns.length,elF ns) else none
theorem yv6(v:Nat->Value)(ns:List Nd)(l:Ls)(w:World)(hR:BF w)(hS:EE w)(h:BO w (v 0) (v 1) (v 2) (v 3) (v 4) (v 5) ns l) :
  Calls Tryz.prog 29 #[.agg #[v 0,v 1,v 2,v 3,v 4,v 5]] w λe w'=>wa2 w (lwG ns l) e w':=by
 unfold lwG;by_cases hg:CY ns l=true
 ·rw[if_pos hg]
  refine(yu8 _ _ _ _ _ _ ns l w hR hS h hg).mono ?_;rintro e w' ⟨u,ev,rfl,_,hu,hev,hk⟩;obtain⟨eo,ec,rfl⟩:=za0 hev;refine⟨⟨u,eo,ec,rfl,λi hi=>?_,za7 hev (zL_ _)⟩,hk⟩;obtain⟨o,c,e⟩:=za0 (hu i hi);exact⟨_,_,_,e⟩
 rw[if_neg hg];refine mq (yk8 _ _ _ _ _ _ ns l w hR h (by simpa using hg)) λw' hk=>?_;exact⟨rfl,hk⟩
structure wg9(w:World):Prop where
 rules:BF w
 steps:EE w
 tab:Lib.TabBelow Tryz.prog w.heap.size w "internal/strconv.uint64pow10" .u64 Lib.pow10Tab
 errC:∃et eu,w.cell? ⟨1,0,none⟩=some (.iface et eu)
 errT:w.cell? ⟨0,0,none⟩=some (.iface 182 (.agg #[.pointer (some ⟨8,87,none⟩)]))
theorem wg9.ok{w':World}(h:wg9 w)(hk:Ok w w'):wg9 w':=by obtain⟨et,eu,he⟩:=h.errC;exact⟨h.rules.below hk,h.steps.below hk,λw2 h2=>h.tab w2 (Below.trans hk (h2.mono hk.le)),⟨et,eu,hk.cell (p:=⟨1,0,none⟩) (zi9 he) he⟩,hk.cell (p:=⟨0,0,none⟩) (zi9 h.errT) h.errT⟩
def DJ(ns:List Nd)(l:Ls)(c:Nat->Int)(ts:List Int):Int:=if CY ns l=true then AJ c ts else 2
def ptN(ns:List Nd):Nat:=ptF ns ns.length+1
def spR(ns:List Nd)(c:Nat->Int):List Int×List Vx×List Lk:=(wc7 (c 2).toNat (c 0) (c 1) (elF ns) (ptN ns*(c 2).toNat+1) (ptN ns+1) []).getD ([],[],[])
theorem zm1(h:DJ ns l c ts=0):CY ns l=true/\AJ c ts=0:=by
 unfold DJ at h;by_cases hg:CY ns l=true
 ·rw[if_pos hg]at h;exact⟨hg,h⟩
 rw[if_neg hg]at h;cases h
theorem zp8(h:AJ c ts=0):0<=c 0/\c 0<=3/\0<=c 1/\c 1<=3/\1<=c 2/\c 2<=6:=by have h0:=zo0 h (k:=0) dC;have h1:=zo0 h (k:=1) dC;have h2:=zo0 h (k:=2) dC;simp only[CX,Bool.and_eq_true,decide_eq_true_eq]at h0 h1 h2;omega
structure wt7(ns:List Nd):Prop where
 tree:AM ns
 len:ns.length<=300
 pts:ptN ns<=301
 els:(elF ns).length<=600
 frm:∀e∈elF ns,0<=e.from'/\e.from'<(ptN ns:Int)
 wit:FG (ptN ns) (elF ns)
theorem wi2(hg:CY ns l=true):wt7 ns:=by
 have h0:=zv7 hg;have hT:=zN8 (zq4 h0);have hl:=(zj1 ns h0).2;have h1:=zq9 ns ns.length;have h2:=yz9 hT;refine⟨hT,hl,by unfold ptN;omega,by omega,λe he=>?_,by unfold ptN;omega,λe he=>?_⟩
 ·unfold ptN
  rcases(zC9 hT).pl e he with ⟨_,p,_,_,_,_,e2⟩ | ⟨p,_,_,_,_,_,e2⟩
  ·have:=zC8 ns p;omega
  have:=zC8 ns p;omega
 unfold ptN;obtain⟨t,e1,e2⟩:=(zC9 hT).to e he;omega
theorem zK9(h:DJ ns l c ts=0):wc7 (c 2).toNat (c 0) (c 1) (elF ns) (ptN ns*(c 2).toNat+1) (ptN ns+1) []=some (spR ns c):=by obtain⟨hg,hr⟩:=zm1 h;have hc:=zp8 hr;obtain⟨r,e⟩:=zE8 (H:=c 0) (U:=c 1) (f:=ptN ns*(c 2).toNat+1) (show 0<(c 2).toNat by omega) (wi2 hg).wit (ptN ns+1) [] List.nodup_nil (λn hn=>by cases hn) sI;unfold spR;rw[e];rfl
theorem ye8(h:DJ ns l c ts=0):FI (DU (c 2).toNat (c 0) (c 1) (elF ns) (spR ns c).1) (spR ns c).2.1.length (spR ns c).2.1 (spR ns c).2.2:=by obtain⟨hg,hr⟩:=zm1 h;have hc:=zp8 hr;exact(zs8 (show 0<(c 2).toNat by omega) (wi2 hg).wit (Nat.lt_succ_self _) (ptN ns+1) [] (spR ns c) List.nodup_nil (λn hn=>by cases hn) (zK9 h)).2.2
theorem zu0(v:Nat->Value)(c:Nat->Int)(ts:List Int)(tz:Option Addr)(tc:Nat)(ns:List Nd)(l:Ls)(w:World)(hE:wg9 w)(h:BO w (v 0) (v 1) (v 2) (v 3) (v 4) (v 5) ns l)(hts:SL w 1 (.slice tz ts.length tc) ts.length (ilL ts)) :
  Calls Tryz.prog 19 #[.agg #[v 0,v 1,v 2,v 3,v 4,v 5],.agg #[nI (c 0),nI (c 1),nI (c 2),nI (c 3),nI (c 4),nI (c 5),.slice tz ts.length tc,nI (c 7),nI (c 8)]] w λe w'=>SpG w (DJ ns l c ts) (ptN ns) (spR ns c) e w':=by
 have hlw:∀Y,Ok w Y->Calls Tryz.prog 29 #[.agg #[v 0,v 1,v 2,v 3,v 4,v 5]] Y λe w'=>wa2 Y (lwG ns l) e w':=λY hY=>yv6 v ns l Y (hE.ok hY).rules (hE.ok hY).steps (h.below hY)
 have hck:∀Y,Ok w Y->Calls Tryz.prog 31 #[.agg #[nI (c 0),nI (c 1),nI (c 2),nI (c 3),nI (c 4),nI (c 5),.slice tz ts.length tc,nI (c 7),nI (c 8)]] Y λe w'=>wm1 Y (AJ c ts) e w':=λY hY=>by obtain⟨et,eu,he⟩:=(hE.ok hY).errC;exact zF8 c ts tz tc Y (hts.below hY) et eu he
 by_cases hg:CY ns l=true
 ·have e1:lwG ns l=some (ptN ns,ptF ns ns.length,elF ns):=by unfold lwG ptN;rw[if_pos hg]
  rw[e1]at hlw;by_cases hr:AJ c ts=0
  ·have hb:DJ ns l c ts=0:=by unfold DJ;rw[if_pos hg];exact hr
   have hc:=zp8 hr;have hG:=wi2 hg;rw[hr]at hck;refine(ye3 v c tz ts.length tc (ptN ns) (ptF ns ns.length) (elF ns) (spR ns c) w (λY hY=>zG2 v c ts tz tc _ _ _ Y (λZ hZ=>hlw Z (hY.step hZ)) (λZ hZ=>hck Z (hY.step hZ))) (λY a hY h6 hs hx he=>?_)).mono λe w' hp=>.inr ⟨hb,hp⟩;have e2:c 2=((c 2).toNat:Int):=oM;have:=yc8 a (ptN ns) (c 2).toNat (c 0) (c 1) (c 3) (c 4) (c 5) (c 7) (c 8) tz ts.length tc (elF ns) (spR ns c) Y h6 hs hx he ⟨by have:=hG.pts;omega,by omega,by have:=hG.els;omega⟩ hG.frm hG.wit oM ⟨by omega,by omega⟩ (zK9 hb) (hE.ok hY).tab;rw[<-e2]at this;exact this
  have hb:DJ ns l c ts=AJ c ts:=by unfold DJ;rw[if_pos hg]
  refine mq (zx6 v c tz ts.length tc (AJ c ts) hr w (λY hY=>zV0 v c ts tz tc _ _ _ (AJ c ts) hr Y (hE.ok hY).errT (λZ hZ=>hlw Z (hY.step hZ)) (λZ hZ=>hck Z (hY.step hZ)))) λw' hk=>?_;exact .inl ⟨by rw[hb];exact hr,by rw[hb],hk⟩
 have e1:lwG ns l=none:=by unfold lwG;rw[if_neg hg]
 have hb:DJ ns l c ts=2:=by unfold DJ;rw[if_neg hg]
 rw[e1]at hlw;refine mq (zx6 v c tz ts.length tc 2 dC w (λY hY=>(zK6 v c ts tz tc 0 Y (λZ hZ=>hlw Z (hY.step hZ))).mono λe w' hp=>hp)) λw' hk=>?_;exact .inl ⟨by rw[hb];decide,by rw[hb],hk⟩
end
end Go.Proofs.YtpongdpnbclchaaGreatDoor
