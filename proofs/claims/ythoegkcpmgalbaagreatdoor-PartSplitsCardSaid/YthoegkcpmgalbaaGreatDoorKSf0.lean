import Derived.Test.YthoegkcpmgalbaaGreatDoorKQi
set_option linter.all false
namespace Go.Proofs.YthoegkcpmgalbaaGreatDoor
open Go.RowKit
variable{ns:List Nd}
def wm1(l:List UInt8)(ns:List Nd):Prop:=∃P:RP,DY l=.inr P.ts/\P.en=l.length/\(BX P).1=0/\(BX P).2.2=ns/\(AA ns).1=0
def wp5(l:List UInt8):Prop:=(∃p,DY l=.inl p)\/∃P:RP,DY l=.inr P.ts/\P.en=l.length/\((BX P).1=0->(AA (BX P).2.2).1≠0)
def ns0:List Nd:=[⟨1,0,⟨#[120]⟩,0,0,0⟩,⟨1,7,⟨#[]⟩,0,0,7⟩,⟨2,15,⟨#[]⟩,0,10,12⟩,⟨3,12,⟨#[120]⟩,0,0,10⟩,⟨3,10,⟨#[]⟩,0,0,14⟩,⟨2,9,⟨#[]⟩,0,0,16⟩,⟨2,9,⟨#[]⟩,0,0,25⟩,⟨3,6,⟨#[]⟩,0,0,27⟩,⟨1,8,⟨#[]⟩,0,0,35⟩,⟨2,11,⟨#[]⟩,1,0,41⟩,⟨2,9,⟨#[]⟩,0,0,46⟩]
def zh6{α:Type}{f:α->α->Bool}(d:∀a,f a a=true):∀(l:List α),AJ f l l=true
 | []=>rfl
 | a::s=>by rw[AJ,d,zh6 d s];rfl
def zK8(l:Ls):AY l l=true:=by
 unfold AY;have o:∀a,EL a a=true:=λa=>by unfold EL;simp
 have D:∀a,EO a a=true:=λa=>by unfold EO;simp
 have d:∀a,DE a a=true:=λa=>by unfold DE;simp
 rw[zh6 o,zh6 D,zh6 d,zh6 d,zh6 d];rfl
def yq0(hok:∀n∈ns,n.Ok)(h:(AA ns).1=0):DG ns (AA ns).2.2=true:=by rw[yj6 ns _ hok,h,zK8];rfl
def yF2(ns:List Nd):∀(t:List Nd) (i:Nat) (l:Ls),(AR ns t i l).1=0->(AR ns t i l).2.2.sy.length=l.sy.length+t.length/\(AR ns t i l).2.2.so.length=l.so.length+t.length/\(AR ns t i l).2.2.sc.length<=l.sc.length+t.length/\(AR ns t i l).2.2.ar.length<=l.ar.length+t.length/\(AR ns t i l).2.2.si.length<=l.si.length+t.length
 | [],i,l,_=>⟨rfl,rfl,nR_ _,nR_ _,nR_ _⟩
 | n::t,i,l,h=>by
  rw[AR]at h ⊢
  split at h
  ·next h0 =>
   rw[aG h0];have:=yF2 ns t (i+1) (BD ns i n l) h
   have k:(BD ns i n l).sy.length=l.sy.length+1/\(BD ns i n l).so.length=l.so.length+1/\(BD ns i n l).sc.length<=l.sc.length+1/\(BD ns i n l).ar.length<=l.ar.length+1/\(BD ns i n l).si.length<=l.si.length+1:=by
    unfold BD;simp only
    refine⟨by simp,by simp,?_,?_,?_⟩<;>(split<;>simp)
   rw[aR];omega
  next h0=>rw[aC h0] at *;exact absurd h h0
def yI4(h0:(AP ns rd0).1=0)(o:∀n∈ns,n.Ok):ns.length<=300/\(BU (AP ns rd0).2.2).sy.length=ns.length/\(BU (AP ns rd0).2.2).so.length=ns.length/\(BU (AP ns rd0).2.2).sc.length<=100000/\(BU (AP ns rd0).2.2).ar.length<=100000/\(BU (AP ns rd0).2.2).si.length<=100000:=by
 have J:=(zj1 ns h0).2;have D:=zw4 ns o;have d:(AA ns).1=0:=by rw[D];exact h0
 have e:(AA ns).2.2=BU (AP ns rd0).2.2:=by rw[D]
 have I:(CJ ns).1=0:=by
  by_cases c:(CJ ns).1=0
  ·exact c
  unfold AA at d;rw[aC c]at d;exact absurd d c
 have G:AA ns=AR ns ns 0 ⟨[],[],[],[],[]⟩:=by unfold AA;rw[aG I]
 rw[<-e,G];rw[G]at d;have:=yF2 ns ns 0 ⟨[],[],[],[],[]⟩ d;simp only[cM,aL]at this;omega
def yq1{L:List Ed}{A Z:Nat}(h:wd6 L A Z):L.length<=2*(Z-A):=by
 obtain⟨I,rfl,K,G⟩:=h
 have D:∀(cs:List (List Ed)),(∀c∈cs,c.length<=2)->cs.flatten.length<=2*cs.length:=by
  intro cs
  induction cs with
  | nil=>intro _;simp
  | cons c cs ih =>
   intro o;have R:=o c aY;have O:=ih (λd J=>o d (bG _ J));rw[bY,aA,aR];omega
 have:=D I (λc o=>by
  obtain⟨i,d,e⟩:=eY.1 o
  rcases G i c (by rw[aJ d,e]) with ⟨x,rfl,_⟩ | ⟨x,y,rfl,_⟩<;>simp)
 omega
def yz9(h:FX ns):(elF ns).length<=2*ptF ns ns.length:=by have:=yq1 (zC9 h).seg;omega
end Go.Proofs.YthoegkcpmgalbaaGreatDoor
