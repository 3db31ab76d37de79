import Derived.Test.YthoegkcpmgalbaaGreatDoorKCmshp
set_option linter.all false
namespace Go.Proofs.YthoegkcpmgalbaaGreatDoor
open Go.RowKit
variable{B g i q:Nat}{W w w':World}{a0 a1 a2 a3 a4 a5:Value}{n:Nat->Nat}{nd:Nd}{ns:List Nd}{r:Rd}{v:Nat->Value}{x:Nat->List Value}
def zh3(kind:Int)(v:List UInt8)(n:Nd)(t:List Nd)(d:n.kind≠0/\n.kind≠1):∀(A:List Nd) (a:Int) (c:Nat),AL kind v (A++n::t) a c=AL kind v A a c
 | [],a,c=>by show AL kind v (n::t) a c=(a,c);rw[AL,aG d]
 | m::A,a,c=>by
  rw[cE,AL,AL]
  split
  ·rfl
  split
  ·exact zh3 kind v n t d A _ _
  exact zh3 kind v n t d A _ _
def zk0(kind:Int)(v:List UInt8)(n:Nd)(D:n.kind=0\/n.kind=1):∀(A:List Nd) (a:Int) (c:Nat),(∀x∈A,x.kind=0\/x.kind=1) ->
  AL kind v (A++[n]) a c=if n.kind≠kind then AL kind v A a c else (if (n.name.toList==v)&&decide ((AL kind v A a c).1<0) then ((AL kind v A a c).2:Int) else (AL kind v A a c).1,(AL kind v A a c).2+1)
 | [],a,c,_=>by show AL kind v [n] a c=if n.kind≠kind then (a,c) else (if (n.name.toList==v)&&decide (a<0) then (c:Int) else a,c+1);rw[AL,aC oM];rfl
 | m::A,a,c,hA=>by
  have I:=hA m aY;have d:∀x∈A,x.kind=0\/x.kind=1:=λx G=>hA x (bG _ G);rw[cE];rw[show AL kind v (m::(A++[n])) a c=(if m.kind≠kind then AL kind v (A++[n]) a c else AL kind v (A++[n]) (if (m.name.toList==v)&&decide (a<0) then (c:Int) else a) (c+1)) by rw[AL,aC oM]];rw[show AL kind v (m::A) a c=(if m.kind≠kind then AL kind v A a c else AL kind v A (if (m.name.toList==v)&&decide (a<0) then (c:Int) else a) (c+1)) by rw[AL,aC oM]];by_cases o:m.kind≠kind
  ·rw[aG o,aG o];exact zk0 kind v n D A a c d
  rw[aC o,aC o];exact zk0 kind v n D A _ _ d
def zy4(x:ByteArray)(v:List UInt8):∀(l:List ByteArray) (k:Nat),AH (l++[x]) v k=if 0<=AH l v k then AH l v k else if v==x.toList then ((k+l.length:Nat):Int) else -1
 | [],k=>by simp[AH]
 | a::l,k=>by
  rw[cE,AH,AH];by_cases h:(v==a.toList)=true
  ·rw[aG h,aG h,aG oM]
  rw[aC h,aC h,zy4 x v l (k+1)];simp only[aR,show k+1+l.length=k+(l.length+1) by omega]
def zr8(x:ByteArray×Nat)(v:List UInt8):∀(l:List (ByteArray×Nat)) (k:Nat),AE (l++[x]) v k=if 0<=AE l v k then AE l v k else if x.1.toList==v then ((k+l.length:Nat):Int) else -1
 | [],k=>by simp[AE]
 | a::l,k=>by
  rw[cE,AE,AE];by_cases h:(a.1.toList==v)=true
  ·rw[aG h,aG h,aG oM]
  rw[aC h,aC h,zr8 x v l (k+1)];simp only[aR,show k+1+l.length=k+(l.length+1) by omega]
def zh0(ns:List Nd)(i:Nat)(h:i<ns.length):ns.take (i+1)=ns.take i++[ns[i]]:=by rw[cN h]
def yl6(ns:List Nd)(i:Nat)(h:i<ns.length):ns.take ns.length=ns.take i++ns[i]::ns.drop (i+1):=by rw[cH,<-aP h,dZ]
def zO3{n:Nd}(h:ES n=true):0<=n.kind/\n.kind<=15/\wj0 n.kind.toNat<=n.op/\n.op<=wj1 n.kind.toNat/\0<=n.num:=by unfold ES wh1 at h;simp only[bM,bV]at h;obtain⟨⟨G,D⟩,K,⟨⟨d,J⟩,I⟩,o⟩:=h;exact⟨G,D,I,o,d⟩
def wp0{k:Int}(d:0<=k)(o:k<=15):k=0\/k=1\/k=2\/k=3\/k=4\/k=5\/k=6\/k=7\/k=8\/k=9\/k=10\/k=11\/k=12\/k=13\/k=14\/k=15:=oM
def zo2{n:Nd}(h:ES n=true):DH n=BR n/\DQ n=wb4 n/\(n.kind<10->BS n=false/\DM n=false)/\(10<=n.kind->DU n=BS n/\DM n = !BS n)/\(n.kind<=1->BR n=false):=by
 obtain⟨G,D,I,o,J⟩:=zO3 h;obtain⟨nd,L,nm,nu,d,K⟩:=n;simp only at G D I o J;rcases wp0 G D with rfl | rfl | rfl | rfl | rfl | rfl | rfl | rfl | rfl | rfl | rfl | rfl | rfl | rfl | rfl | rfl
 all_goals
  simp[wj0,wj1]at I o
 case inr.inr.inr.inr.inr.inr.inr.inr.inr.inr.inr.inr.inr.inr.inl =>
  have:d=1\/d=2:=oM
  rcases this with rfl | rfl<;>simp[DH,BR,DQ,wb4,DU,BS,DM]
 case inr.inr.inr.inr.inr.inr.inr.inr.inr.inr.inr.inr.inr.inr.inr =>
  have:d=3\/d=4\/d=5\/d=6\/d=7\/d=8\/d=9\/d=10\/d=11\/d=12\/d=13\/d=14\/d=15:=oM
  rcases this with rfl | rfl | rfl | rfl | rfl | rfl | rfl | rfl | rfl | rfl | rfl | rfl | rfl<;>simp[DH,BR,DQ,wb4,DU,BS,DM]
 all_goals
  have:d=0:=oM;subst this;simp[DH,BR,DQ,wb4,DU,BS,DM]
def zr9(h:Shp ns)(i:Nat)(L:i<ns.length)(O:2<=ns[i].depth):∀(j:Nat),j<=i->(∀m (d:m<ns.length),j<=m->m<i->ns[i].depth<=ns[m].depth) ->
  ∃(k:Nat) (X:k<ns.length),k<i/\BZ ns ns[i].depth j=k/\ns[k].depth=ns[i].depth-1/\∀m (d:m<ns.length),k<m->m<i->ns[i].depth<=ns[m].depth
 | 0,_,d=>by
  exfalso;have K:=h.first oM;by_cases e:i=0
  ·subst e;omega
  have:=d 0 oM (nR_ _) oM;omega
 | j+1,hj,d=>by
  have D:j<ns.length:=oM;rw[BZ];have e:ns.getD j nd0=ns[j]:=by simp[List.getD,D]
  rw[e];by_cases G:ns[j].depth<ns[i].depth
  ·rw[aG G]
   refine⟨j,D,oM,rfl,?_,λm o K I=>d m o oM I⟩;have R:=h.step j oM;by_cases J:j+1=i
   ·subst J;omega
   have:=d (j+1) oM (nR_ _) oM;omega
  rw[aC G];refine zr9 h i L O j oM (λm o K I=>?_);by_cases J:m=j
  ·subst J;omega
  exact d m o oM I
def wc1(ns:List Nd)(i:Nat)(n:Nd):Bool:=wb4 (ns.getD (BZ ns n.depth i).toNat nd0)
def wa8(ns:List Nd)(n:Nd)(l:Ls):Int:=if n.kind=0 then l.sc.length else if n.kind=1 then l.ar.length else if BB n=1 then (AN ns 0 n.name.toList ns.length).1 else if BB n=2 then (AN ns 1 n.name.toList ns.length).1 else -1
def BD(ns:List Nd)(i:Nat)(n:Nd)(l:Ls):Ls :=
 ⟨if n.kind=0 then l.sc++[n.name] else l.sc,if n.kind=1 then l.ar++[(n.name,n.num)] else l.ar,l.sy++[wa8 ns n l],if BR n then l.si++[(i:Int)] else l.si,l.so++[if BR n then (l.si.length:Int) else -1]⟩
def EI(ns:List Nd)(i:Nat)(n:Nd)(sites:Nat):Int:=CI n (EJ ns n i) (AN ns 0 n.name.toList ns.length).1 (AN ns 1 n.name.toList ns.length).1 (wc1 ns i n) sites
def AR(ns:List Nd):List Nd->Nat->Ls->Int×Int×Ls
 | [],_,l=>(0,0,l)
 | n::t,i,l=>if EI ns i n l.si.length=0 then AR ns t (i+1) (BD ns i n l) else (EI ns i n l.si.length,i,l)
structure Rel(ns:List Nd)(i:Nat)(r:Rd):Prop where
 sy:r.sy.length=i
 si:r.si.length<=12
 sc:∀v,AN ns 0 v i=(AH r.sc v 0,r.sc.length)
 ar:∀v,AN ns 1 v i=(AE r.ar v 0,r.ar.length)
 one:∀v,0<=AH r.sc v 0->AE r.ar v 0<0
 scl:r.sc.length<=8
 arl:r.ar.length<=3
 nu:∀(k:Nat) (hk:k<ns.length),k<i->(∀(j:Nat) (hj:j<ns.length),k<j->j<i->ns[j].depth≠ns[k].depth)->r.nu ns[k].depth.toNat=DQ ns[k]
def Rel.nu_next(h:Rel ns i r)(J:Shp ns)(I:i<ns.length):∀(k:Nat) (G:k<ns.length),k<i+1->(∀(j:Nat) (D:j<ns.length),k<j->j<i+1->ns[j].depth≠ns[k].depth)->(λd=>if d=ns[i].depth.toNat then DQ ns[i] else r.nu d) ns[k].depth.toNat=DQ ns[k]:=by
 intro k G K D;by_cases e:k=i
 ·subst e;simp
 have O:=D i I oM oM;have L:=J.dep i I;have R:=J.dep k G;simp only;rw[aC oM];exact h.nu k G oM (λj o a b=>D j o a oM)
def zX6(h:Rel ns i r)(hs:Shp ns)(hi:i<ns.length)(hk:ns[i].kind=0\/ns[i].kind=1) :
  (CT r i ns[i]).1=EI ns i ns[i] r.si.length/\((CT r i ns[i]).1=0->Rel ns (i+1) (CT r i ns[i]).2/\BU (CT r i ns[i]).2=BD ns i ns[i] (BU r)):=by
 have hf:=hs.fit i hi;obtain⟨f1,f2,f3,f4,f5⟩:=zo2 hf;have b4:=(zO3 hf).2.2.2.2;have G:BR ns[i]=false:=f5 oM
 have b3:∀x∈ns.take i,x.kind=0\/x.kind=1:=λx hx=>by obtain⟨j,d,rfl⟩:=List.getElem_of_mem hx;simp at d;simp only[eQ];have h1:=hs.decl j i hi oM oM;have o:=(zO3 (hs.fit j oM)).1;omega
 have b2:=h.nu_next hs hi;have q0:=h.sc;have q1:=h.ar
 have D:∀(kind:Int) (v:List UInt8),AN ns kind v (i+1)=if ns[i].kind≠kind then AN ns kind v i else (if (ns[i].name.toList==v)&&decide ((AN ns kind v i).1<0) then ((AN ns kind v i).2:Int) else (AN ns kind v i).1,(AN ns kind v i).2+1):=λkind v=>by unfold AN;rw[zh0 ns i hi];exact zk0 kind v ns[i] hk _ _ _ b3
 have O:EI ns i ns[i] r.si.length=BN ns[i].kind ns[i].num (AH r.sc ns[i].name.toList 0) (AE r.ar ns[i].name.toList 0) r.sc.length r.ar.length:=by unfold EI CI;rw[aG hk];unfold EJ;rw[q0,q1]
 have b0:FC ns[i]=false:=by unfold FC;exact aN oM
 have a9:=h.sy;have b1:=h.si;have R:=h.one;have a7:=h.scl;have a8:=h.arl;rw[O];generalize hn:ns[i]=n at *
 have o:CT r i n=(if (BY r.sc r.ar n).2.1≠0 then ((BY r.sc r.ar n).2.1,r) else (0,⟨(BY r.sc r.ar n).2.2.1,(BY r.sc r.ar n).2.2.2,r.sy++[(BY r.sc r.ar n).1],r.so++[-1],r.si,λd=>if d=n.depth.toNat then DQ n else r.nu d⟩)):=by unfold CT;simp only[show CO r.sc r.ar n=BY r.sc r.ar n by unfold CO;rw[aG hk]];rw[b0,f1,G];simp
 by_cases L:wc4 r.sc r.ar n.name.toList=true
 ·have Y:0<=AH r.sc n.name.toList 0\/0<=AE r.ar n.name.toList 0:=by unfold wc4 at L;simpa using L
  have e:BY r.sc r.ar n=(0,40,r.sc,r.ar):=by unfold BY;rw[aG L]
  have K:BN n.kind n.num (AH r.sc n.name.toList 0) (AE r.ar n.name.toList 0) r.sc.length r.ar.length=40:=by
   unfold BN
   repeat' split
   all_goals first | rfl | (exfalso;omega)
  rw[K,o,e];exact⟨by simp,λX=>absurd X (by simp)⟩
 have Y:AH r.sc n.name.toList 0<0/\AE r.ar n.name.toList 0<0:=by unfold wc4 at L;simp at L;omega
 rcases hk with hk | hk
 ·by_cases h8:r.sc.length=8
  ·have e:BY r.sc r.ar n=(0,44,r.sc,r.ar):=by unfold BY;rw[aC L,aG hk,aG h8]
   have K:BN n.kind n.num (AH r.sc n.name.toList 0) (AE r.ar n.name.toList 0) r.sc.length r.ar.length=44:=by
    unfold BN
    repeat' split
    all_goals first | rfl | (exfalso;omega)
   rw[K,o,e];exact⟨by simp,λX=>absurd X (by simp)⟩
  have e:BY r.sc r.ar n=((r.sc.length:Int),0,r.sc++[n.name],r.ar):=by unfold BY;rw[aC L,aG hk,aC h8]
  have K:BN n.kind n.num (AH r.sc n.name.toList 0) (AE r.ar n.name.toList 0) r.sc.length r.ar.length=0:=by
   unfold BN
   repeat' split
   all_goals first | rfl | (exfalso;omega)
  rw[K,o,e];refine⟨by simp,λ_=>?_⟩;simp only[ne_eq,gZ,cT];refine⟨⟨by simp[a9],b1,λv=>?_,λv=>?_,λv=>?_,by simp;omega,a8,?_⟩,?_⟩
  ·rw[D,aC (by simp[hk]),q0,zy4]
   by_cases J:0<=AH r.sc v 0
   ·rw[aG J,aC (by simp;omega)];simp
   rw[aC J];by_cases I:n.name.toList=v
   ·simp[I];omega
   have Z:¬v=n.name.toList:=λe=>I e.symm;have:=(yC9 r.sc v 0).1;simp[I,Z];omega
  ·rw[D,aG oM,q1]
  ·intro J
   rw[zy4]at J;by_cases h1:0<=AH r.sc v 0
   ·exact R v h1
   rw[aC h1]at J;by_cases I:v=n.name.toList
   ·rw[I];exact Y.2
   simp[I]at J
  ·intro k a6 a b
   exact b2 k a6 a b
  unfold BU BD wa8;simp[hk,G]
 by_cases Z:n.num<1\/16<n.num
 ·have e:BY r.sc r.ar n=(0,43,r.sc,r.ar):=by unfold BY;rw[aC L,aC oM,aG Z]
  have K:BN n.kind n.num (AH r.sc n.name.toList 0) (AE r.ar n.name.toList 0) r.sc.length r.ar.length=43:=by
   unfold BN
   repeat' split
   all_goals first | rfl | (exfalso;omega)
  rw[K,o,e];exact⟨by simp,λX=>absurd X (by simp)⟩
 by_cases h8:r.ar.length=3
 ·have e:BY r.sc r.ar n=(0,45,r.sc,r.ar):=by unfold BY;rw[aC L,aC oM,aC Z,aG h8]
  have K:BN n.kind n.num (AH r.sc n.name.toList 0) (AE r.ar n.name.toList 0) r.sc.length r.ar.length=45:=by
   unfold BN
   repeat' split
   all_goals first | rfl | (exfalso;omega)
  rw[K,o,e];exact⟨by simp,λX=>absurd X (by simp)⟩
 have e:BY r.sc r.ar n=((r.ar.length:Int),0,r.sc,r.ar++[(n.name,n.num.toNat)]):=by unfold BY;rw[aC L,aC oM,aC Z,aC h8]
 have K:BN n.kind n.num (AH r.sc n.name.toList 0) (AE r.ar n.name.toList 0) r.sc.length r.ar.length=0:=by
  unfold BN
  repeat' split
  all_goals first | rfl | (exfalso;omega)
 rw[K,o,e];refine⟨by simp,λ_=>?_⟩;simp only[ne_eq,gZ,cT];refine⟨⟨by simp[a9],b1,λv=>?_,λv=>?_,λv=>?_,a7,by simp;omega,?_⟩,?_⟩
 ·rw[D,aG oM,q0]
 ·rw[D,aC (by simp[hk]),q1,zr8]
  by_cases J:0<=AE r.ar v 0
  ·rw[aG J,aC (by simp;omega)];simp
  rw[aC J];by_cases I:n.name.toList=v
  ·simp[I];omega
  have:=(yx2 r.ar v 0).1;simp[I];omega
 ·intro J
  rw[zr8];have h1:=R v J;rw[aC oM];by_cases I:n.name.toList=v
  ·exfalso
   have b5:0<=AH r.sc v 0:=J;rw[I]at Y;omega
  simp[I]
 ·intro k a6 a b
  exact b2 k a6 a b
 unfold BU BD wa8;have:((n.num.toNat:Nat):Int)=n.num:=oM;simp[hk,G,this]
def zS3(h:Rel ns i r)(hs:Shp ns)(hi:i<ns.length)(G:¬(ns[i].kind=0\/ns[i].kind=1)) :
  (CT r i ns[i]).1=EI ns i ns[i] r.si.length/\((CT r i ns[i]).1=0->Rel ns (i+1) (CT r i ns[i]).2/\BU (CT r i ns[i]).2=BD ns i ns[i] (BU r)):=by
 have hf:=hs.fit i hi;obtain⟨f1,f2,f3,f4,f5⟩:=zo2 hf;have c1:=zO3 hf;have b8:=h.nu_next hs hi
 have b1:∀(kind:Int) (v:List UInt8),AN ns kind v (i+1)=AN ns kind v i:=λkind v=>by unfold AN;rw[zh0 ns i hi];exact zh3 kind v ns[i] [] ⟨λe=>G (.inl e),λe=>G (.inr e)⟩ _ _ _
 have I:∀(kind:Int) (v:List UInt8),AN ns kind v ns.length=AN ns kind v i:=λkind v=>by unfold AN;rw[yl6 ns i hi];exact zh3 kind v ns[i] _ ⟨λe=>G (.inl e),λe=>G (.inr e)⟩ _ _ _
 have a6:10<=ns[i].kind->wc1 ns i ns[i]=r.nu (ns[i].depth-1).toNat:=λZ=>by
  obtain⟨k,d,o,D,K,J⟩:=zr9 hs i hi (hs.expr i hi Z) i (nR_ _) (λm O a b=>absurd a oM);unfold wc1;rw[D,aO];have e:ns.getD k nd0=ns[k]:=by simp[List.getD,d]
  rw[e,<-(zo2 (hs.fit k d)).2.1,<-h.nu k d o (λj L a b=>by have:=J j L a b;omega),K]
 have J:EI ns i ns[i] r.si.length=CI ns[i] (EJ ns ns[i] i) (AH r.sc ns[i].name.toList 0) (AE r.ar ns[i].name.toList 0) (wc1 ns i ns[i]) r.si.length:=by unfold EI;rw[I,I,h.sc,h.ar]
 have b5:=h.sy;have b7:=h.si;have L:=h.one ns[i].name.toList
 have hrel:∀(s:Int) (so:List Int) (si:List Nat),si.length<=12->Rel ns (i+1) ⟨r.sc,r.ar,r.sy++[s],so,si,λd=>if d=ns[i].depth.toNat then DQ ns[i] else r.nu d⟩:=λs so si hl =>
  ⟨by simp[b5],hl,λv=>by rw[b1];exact h.sc v,λv=>by rw[b1];exact h.ar v,h.one,h.scl,h.arl,b8⟩
 have R:∀l:Ls,wa8 ns ns[i] l=if BB ns[i]=1 then AH r.sc ns[i].name.toList 0 else if BB ns[i]=2 then AE r.ar ns[i].name.toList 0 else -1:=λl=>by unfold wa8;rw[aC (λe=>G (.inl e)),aC (λe=>G (.inr e)),I,I,h.sc,h.ar]
 rw[J]
 have X:∀l:Ls,BD ns i ns[i] l=⟨l.sc,l.ar,l.sy++[wa8 ns ns[i] l],if BR ns[i] then l.si++[(i:Int)] else l.si,l.so++[if BR ns[i] then (l.si.length:Int) else -1]⟩:=λl=>by unfold BD;rw[aC (λe=>G (.inl e)),aC (λe=>G (.inr e))]
 generalize hn:ns[i]=n at *;generalize hw:wc1 ns i n=want at *;obtain⟨s,a9⟩:∃s,AH r.sc n.name.toList 0=s:=⟨_,rfl⟩;obtain⟨a,a7⟩:∃a,AE r.ar n.name.toList 0=a:=⟨_,rfl⟩;rw[a9,a7]at L R ⊢;have O:wc4 r.sc r.ar n.name.toList=(decide (0<=s)||decide (0<=a)):=by unfold wc4;rw[a9,a7]
 -- what the names tell
 obtain⟨K,co,b9,c0⟩:∃K co,CO r.sc r.ar n=(K,co,r.sc,r.ar)/\((co=0/\K=(if BB n=1 then s else if BB n=2 then a else -1)/\¬(0<BB n/\s<0/\a<0)/\¬(0<BB n/\((BB n==1) != decide (0<=s))=true))\/(co=41/\(0<BB n/\s<0/\a<0))\/(co=42/\¬(0<BB n/\s<0/\a<0)/\(0<BB n/\((BB n==1) != decide (0<=s))=true))):=by
  unfold CO;rw[aC G];by_cases k1:n.kind=2\/n.kind=4\/n.kind=12
  ·have D:BB n=1:=by unfold BB;rw[aG k1]
   rw[aG k1,a9,D];unfold DN;rw[O];by_cases o:0<=s
   ·refine⟨s,0,by rw[aG o],.inl ⟨rfl,by simp,oM,by simp[o]⟩⟩
   by_cases Y:0<=a
   ·refine⟨0,42,by rw[aC o,aG (by simp[Y])],.inr (.inr ⟨rfl,oM,by simp[o]⟩)⟩
   refine⟨0,41,by rw[aC o,aC (by simp[o,Y])],.inr (.inl ⟨rfl,oM⟩)⟩
  rw[aC k1];by_cases k2:n.kind=3\/n.kind=13
  ·have D:BB n=2:=by unfold BB;rw[aC k1,aG k2]
   rw[aG k2,a7,D];unfold DN;rw[O];by_cases Y:0<=a
   ·have o:s<0:=by
     by_cases h3:0<=s
     ·have:=L h3;omega
     omega
    refine⟨a,0,by rw[aG Y],.inl ⟨rfl,by simp,oM,by simp;omega⟩⟩
   by_cases o:0<=s
   ·refine⟨0,42,by rw[aC Y,aG (by simp[o])],.inr (.inr ⟨rfl,oM,by simp[o]⟩)⟩
   refine⟨0,41,by rw[aC Y,aC (by simp[o,Y])],.inr (.inl ⟨rfl,oM⟩)⟩
  have D:BB n=0:=by unfold BB;rw[aC k1,aC k2]
  rw[aC k2,D];exact⟨-1,0,rfl,.inl ⟨rfl,by simp,oM,oM⟩⟩
 have b3:CT r i n=(if co≠0 then (co,r) else if FC n&&(DU n != r.nu (n.depth-1).toNat) then (42,r) else if BR n&&r.si.length==12 then (46,r) else (0,⟨r.sc,r.ar,r.sy++[K],r.so++[if BR n then (r.si.length:Int) else -1],if BR n then r.si++[i] else r.si,λd=>if d=n.depth.toNat then DQ n else r.nu d⟩)):=by unfold CT;rw[b9,f1]
 have hV:∀b2,CI n b2 s a want r.si.length=if 0<BB n/\s<0/\a<0 then 41 else if 0<BB n/\((BB n==1) != decide (0<=s))=true then 42 else if (BS n && !want)||(DM n&&want) then 42 else if BR n&&decide (12<=r.si.length) then 46 else 0:=λb2=>by unfold CI;rw[aC G]
 rw[hV,b3];rcases c0 with ⟨rfl,Y,n1,n2⟩ | ⟨rfl,n1⟩ | ⟨rfl,n1,n2⟩;rotate_left
 ·rw[aG n1];exact⟨by simp,λo=>absurd o (by simp)⟩
 ·rw[aC n1,aG n2];exact⟨by simp,λo=>absurd o (by simp)⟩
 rw[aC n1,aC n2]
 have a8:(FC n&&(DU n != r.nu (n.depth-1).toNat))=((BS n && !want)||(DM n&&want)):=by
  by_cases Z:10<=n.kind
  ·have D:FC n=true:=by unfold FC;exact aV Z
   rw[D,(f4 Z).1,(f4 Z).2,<-a6 Z]
   cases BS n<;>cases want<;>rfl
  have D:FC n=false:=by unfold FC;exact aN Z
  rw[D,(f3 oM).1,(f3 oM).2];rfl
 have b0:(BR n&&r.si.length==12)=(BR n&&decide (12<=r.si.length)):=by
  cases BR n
  ·rfl
  simp only[fU];by_cases b4:r.si.length=12
  ·simp[b4]
  have:¬12<=r.si.length:=oM;simp[b4,this]
 rw[a8,b0];simp only[ne_eq,gZ,cT];by_cases q1:((BS n && !want)||(DM n&&want))=true
 ·rw[aG q1,aG q1];exact⟨by simp,λo=>absurd o (by simp)⟩
 rw[aC q1,aC q1];by_cases q2:(BR n&&decide (12<=r.si.length))=true
 ·rw[aG q2,aG q2];exact⟨by simp,λo=>absurd o (by simp)⟩
 rw[aC q2,aC q2];refine⟨rfl,λ_=>⟨hrel _ _ _ ?_,?_⟩⟩
 ·cases b6:BR n
  ·simpa using b7
  rw[b6]at q2;simp at q2;simp;omega
 rw[X,R];unfold BU;rw[Y]
 cases BR n<;>simp
def yl7(h:Rel ns i r)(d:Shp ns)(o:i<ns.length) :
  (CT r i ns[i]).1=EI ns i ns[i] r.si.length/\((CT r i ns[i]).1=0->Rel ns (i+1) (CT r i ns[i]).2/\BU (CT r i ns[i]).2=BD ns i ns[i] (BU r)):=by
 by_cases D:ns[i].kind=0\/ns[i].kind=1
 ·exact zX6 h d o D
 exact zS3 h d o D
def zX7(hs:Shp ns):∀(m i:Nat) (r:Rd),ns.length-i=m->i<=ns.length->Rel ns i r->AR ns (ns.drop i) i (BU r)=((BM (ns.drop i) r).1,(BM (ns.drop i) r).2.1,BU (BM (ns.drop i) r).2.2)
 | 0,i,r,hm,hi,h=>by rw[aU oM];rfl
 | m+1,i,r,hm,hi,h=>by
  have D:i<ns.length:=oM;obtain⟨I,G⟩:=yl7 h hs D;have o:(BU r).si.length=r.si.length:=by unfold BU;simp
  rw[aP D,AR,BM,o,h.sy,<-I];by_cases d:(CT r i ns[i]).1=0
  ·rw[aG d,aG d,<-(G d).2]
   exact zX7 hs m (i+1) _ oM oM (G d).1
  rw[aC d,aC d]
def yw3(ns:List Nd):Rel ns 0 rd0:=⟨rfl,by simp[rd0],λv=>rfl,λv=>rfl,λv h=>by simp[rd0,AH]at h,by simp[rd0],by simp[rd0],λk d h=>absurd h oM⟩
def AA(ns:List Nd):Int×Int×Ls:=if (CJ ns).1=0 then AR ns ns 0 ⟨[],[],[],[],[]⟩ else ((CJ ns).1,(CJ ns).2,⟨[],[],[],[],[]⟩)
def zw4(ns:List Nd)(d:∀n∈ns,n.Ok):AA ns=((AP ns rd0).1,(AP ns rd0).2.1,BU (AP ns rd0).2.2):=by
 unfold AA AP;rw[zz0 ns d];by_cases h:(BL ns).1=0
 ·rw[aG h,aG h]
  exact zX7 (zP0 h) ns.length 0 rd0 oM oM (yw3 ns)
 rw[aC h,aC h];rfl
def TY(k:Nat):Nat:=[53,9,55,3,3,3].getD k 0
def SZ(k:Nat):Nat:=[6,1,2,1,1,1].getD k 0
def AU{α:Type}(f:Nat->α)(k:Nat)(a:α):Nat->α:=λj=>if j=k then a else f j
structure we8(w:World)(g B:Nat)(v:Nat->Value)(n:Nat->Nat)(x:Nat->List Value):Prop where
 gB:g<B
 lt:B<=w.heap.size
 own:∀k,k<6->w.ownsRow B (TY k) (SZ k) (v k) (n k) (x k)
 apart:∀j k,j<6->k<6->j≠k->(v j).ownBlock=none\/(v j).ownBlock≠(v k).ownBlock
 cell:∀k,k<6->w.cell? (aD g k)=some (v k)
 warm:∀k,w.frozen? (aD g k)=false
def Apt(v:Nat->Value):Prop:=∀j k,j<6->k<6->j≠k->(v j).ownBlock=none\/(v j).ownBlock≠(v k).ownBlock
def zw1(h:Below w.heap.size w w'):w.grownBy w' none:=⟨h.os,h.tape,h.output,h.size,λk d _=>h.block k d⟩
def we8.below(h:we8 w g B v n x)(d:Below w.heap.size w w'):we8 w' g B v n x:=by
 have D:g<w.heap.size:=lL_ h.gB h.lt;refine⟨h.gB,aH h.lt d.size,λk o=>(h.own k o).kept (zw1 d) ?_,h.apart,λk o=>(d.cell (p:=⟨g,k,none⟩) D).trans (h.cell k o),λk=>(d.frozen (p:=⟨g,k,none⟩) D).trans (h.warm k)⟩
 cases (v k).ownBlock with
 | none=>exact .inl rfl
 | some b=>exact .inr sI
def zs0(w:World)(g o:Nat)(u:Value):w.grownBy (w.setCell (aD g o) u) (some g) :=
 ⟨rfl,rfl,rfl,by simp,λk _ d=>Below.heap_setCell w ⟨g,o,none⟩ u k (λe=>d (by rw[e]))⟩
def we8.grow{k m:Nat}{u:Value}{y:List Value}(h:we8 w g B v n x)(L:k<6)(O:w.grownBy w' (v k).ownBlock)(ho:w'.ownsRow B (TY k) (SZ k) u m y)
  (hw:u.ownBlock=(v k).ownBlock\/u.ownBlock=some w.heap.size):we8 (w'.setCell (aD g k) u) g B (AU v k u) (AU n k m) (AU x k y):=by
 have Y:g<w.heap.size:=lL_ h.gB h.lt;have d:∀j,j<6->∀b,(v j).ownBlock=some b->B<=b/\b<w.heap.size:=λj o b e=>(h.own j o).lt b e;have R:∀b,u.ownBlock=some b->B<=b:=λb e=>(ho.lt b e).1;have G:w'.heap[g]?=w.heap[g]?:=O.block g Y (λe=>by have:=(d k L g e.symm).1;have:=h.gB;omega);have Z:∀j,w'.cell? (aD g j)=w.cell? (aD g j):=λj=>World.cell?_of_block (a:=⟨g,j,none⟩) G;have X:∀j,w'.frozen? (aD g j)=w.frozen? (aD g j):=λj=>World.frozen?_of_block (a:=⟨g,j,none⟩) G;have gB:=h.gB;refine⟨h.gB,by have:=O.size;have:=h.lt;simp;omega,λj o=>?_,λi j K o D=>?_,λj o=>?_,λj=>?_⟩
 ·by_cases e:j=k
  ·subst e
   simp only[AU,dD];refine ho.kept (zs0 w' g _ u) ?_
   cases I:u.ownBlock with
   | none=>exact .inl rfl
   | some b=>exact .inr (by have:=R b I;simp;omega)
  simp only[AU,aC e];refine((h.own j o).kept O (h.apart j k o L e)).kept (zs0 w' g _ u) ?_
  cases I:(v j).ownBlock with
  | none=>exact .inl rfl
  | some b=>exact .inr (by have:=(d j o b I).1;simp;omega)
 ·by_cases e1:i=k
  ·subst e1
   have J:¬j=i:=λe=>D e.symm;simp only[AU,dD,aC J];rcases hw with hw | hw
   ·rw[hw];exact h.apart i j K o D
   refine .inr (λe=>?_);rw[hw]at e;have:=(d j o _ e.symm).2;omega
  simp only[AU,aC e1];by_cases J:j=k
  ·subst J
   simp only[dD];rcases hw with hw | hw
   ·rw[hw];exact h.apart i j K o D
   cases I:(v i).ownBlock with
   | none=>exact .inl rfl
   | some b=>exact .inr (λe=>by rw[hw]at e;injection e with e;have:=(d i K b I).2;omega)
  simp only[aC J];exact h.apart i j K o D
 ·rw[cs w' g k j u (v k) ((Z k).trans (h.cell k L))]
  by_cases e:j=k
  ·rw[aG e];simp[AU,e]
  rw[aC e,Z j,h.cell j o];simp[AU,e]
 simp only[World.frozen?_setCell];rw[X j];exact h.warm j
def zc6{P:Program}{I:Func}{p t u:Tmp}{o:TypeId}(h:I.results=#[.cell p o,.tmp t,.tmp u])(tmps:Array Value)(w:World)(g:Nat)(G:TypeId)(cs:Array Value)(J:Nat×Nat)(d:TypeDesc)
  (K:tmps.getD p undef=pA g 0) (L:w.heap[g]?=some (.cells cs G J))
  (O:P.underlying o=some d) (X:(match d with | .struct _ | .array _ _=>true | _=>false)=true) (R:(P.info? o).map (·.size)=some cs.size) :
  (results I tmps).run P w=.ok (.tuple #[.agg cs,tmps.getD t undef,tmps.getD u undef]) w:=by
 have D:tmps[p]?.getD undef=pA g 0:=by simpa using K
 simp[results,h,D,asAddr,run_loadVar_row w g G o cs J d L O X R,Sem.run_bind,Result.andThen]
def AQ(n:Nd):List Value:=[nI n.depth,nI n.kind,.string n.name,nI n.num,nI n.op,nI n.pos]
def xOf(ns:List Nd)(i:Nat)(l:Ls)(k:Nat):List Value :=
 if k=0 then (ns.take i).flatMap AQ else if k=1 then l.sc.map (λs=>.string s) else if k=2 then l.ar.flatMap (λa=>[.string a.1,nI a.2]) else if k=3 then l.sy.map (λs=>nI s) else if k=4 then l.si.map (λs=>nI s) else l.so.map (λs=>nI s)
def nOf(i:Nat)(l:Ls)(k:Nat):Nat:=if k=0 then i else if k=1 then l.sc.length else if k=2 then l.ar.length else if k=3 then l.sy.length else if k=4 then l.si.length else l.so.length
def ls0:Ls:=⟨[],[],[],[],[]⟩
def zc9{t:TypeId}(h:w.heap[g]?=some (.cells #[a0,a1,a2,a3,a4,a5] t (0,0)))(D I J o d G:Value) :
  ((((((w.setCell (aD g 0) D).setCell (aD g 1) I).setCell (aD g 2) J).setCell (aD g 3) o).setCell (aD g 4) d).setCell (aD g 5) G).heap[g]?=some (.cells #[D,I,J,o,d,G] t (0,0)):=by
 have K:=heap_setCell_same w g 0 _ t D h;have R:=heap_setCell_same _ g 1 _ t I K;have O:=heap_setCell_same _ g 2 _ t J R;have Y:=heap_setCell_same _ g 3 _ t o O;have L:=heap_setCell_same _ g 4 _ t d Y;have X:=heap_setCell_same _ g 5 _ t G L;rw[X];simp
structure Six(w:World)(g:Nat)(a0 a1 a2 a3 a4 a5:Value):Prop where
 heap:w.heap[g]?=some (.cells #[a0,a1,a2,a3,a4,a5] 30 (0,0))
def Six.lt(h:Six w g a0 a1 a2 a3 a4 a5):g<w.heap.size:=(cZ.1 h.heap).1
def Six.pc(h:Six w g a0 a1 a2 a3 a4 a5):PC w g a0 a1 a2 a3 a4 a5 :=
 ⟨h.lt,by simp[World.cell?,h.heap],by simp[World.cell?,h.heap],by simp[World.cell?,h.heap],by simp[World.cell?,h.heap],by simp[World.cell?,h.heap],by simp[World.cell?,h.heap]⟩
def Six.warm(h:Six w g a0 a1 a2 a3 a4 a5)(k:Nat):w.frozen? (aD g k)=false:=by simp[World.frozen?,h.heap]
def Six.kept(h:Six w g a0 a1 a2 a3 a4 a5)(d:w'.heap[g]?=w.heap[g]?):Six w' g a0 a1 a2 a3 a4 a5:=⟨d.trans h.heap⟩
def Six.below(h:Six w g a0 a1 a2 a3 a4 a5)(d:Below w.heap.size w w'):Six w' g a0 a1 a2 a3 a4 a5:=h.kept (d.block g h.lt)
def Six.new(w:World)(a0 a1 a2 a3 a4 a5:Value):Six (w.alloc (.cells #[a0,a1,a2,a3,a4,a5] 30)) w.heap.size a0 a1 a2 a3 a4 a5:=⟨heap_alloc_new w _⟩
def zc8{w0:World}(h:Below B w0 w)(d:B<=g)(I J K D o G:Value):Below B w0 ((((((w.setCell (aD g 0) I).setCell (aD g 1) J).setCell (aD g 2) K).setCell (aD g 3) D).setCell (aD g 4) o).setCell (aD g 5) G) :=
 (((((h.setCell (p:=⟨g,0,none⟩) d I).setCell (p:=⟨g,1,none⟩) d J).setCell (p:=⟨g,2,none⟩) d K).setCell (p:=⟨g,3,none⟩) d D).setCell (p:=⟨g,4,none⟩) d o).setCell (p:=⟨g,5,none⟩) d G
structure PS(w W:World)(g q:Nat)(nd:Nd)(v:Nat->Value)(n:Nat->Nat)(x:Nat->List Value):Prop where
 hb:Below w.heap.size w W
 six:Six W w.heap.size (sZ) (sZ) (sZ) (sZ) (sZ) (sZ)
 own:we8 W g (g+1) v n x
 nd:NdC W q nd
 lo:w.heap.size<g
 gq:g<q
 aq:∀k,k<6->(v k).ownBlock≠some q
def PS.below{W':World}(h:PS w W g q nd v n x)(d:Below W.heap.size W W'):PS w W' g q nd v n x :=
 ⟨h.hb.trans (d.mono h.hb.size),h.six.below d,h.own.below d,h.nd.below d,h.lo,h.gq,h.aq⟩
structure Mid(W:World)(g q:Nat)(nd:Nd)(v:Nat->Value):Prop where
 glt:g<W.heap.size
 qlt:q<W.heap.size
 gq:¬g=q
 qg:¬q=g
 c0:W.cell? (aD g 0)=some (v 0)
 c1:W.cell? (aD g 1)=some (v 1)
 c2:W.cell? (aD g 2)=some (v 2)
 c3:W.cell? (aD g 3)=some (v 3)
 c4:W.cell? (aD g 4)=some (v 4)
 c5:W.cell? (aD g 5)=some (v 5)
 warm:∀k,W.frozen? (aD g k)=false
 d0:W.cell? (aD q 0)=some (nI nd.depth)
 d1:W.cell? (aD q 1)=some (nI nd.kind)
 d2:W.cell? (aD q 2)=some (.string nd.name)
 d3:W.cell? (aD q 3)=some (nI nd.num)
 d4:W.cell? (aD q 4)=some (nI nd.op)
 d5:W.cell? (aD q 5)=some (nI nd.pos)
def PS.mid(h:PS w W g q nd v n x):Mid W g q nd v:=by have:=h.gq;exact⟨lL_ h.own.gB h.own.lt,h.nd.lt,oM,oM,h.own.cell 0 oM,h.own.cell 1 oM,h.own.cell 2 oM,h.own.cell 3 oM,h.own.cell 4 oM,h.own.cell 5 oM,h.own.warm,h.nd.c0,h.nd.c1,h.nd.c2,h.nd.c3,h.nd.c4,h.nd.c5⟩
def PS.app{W2:World}{k m:Nat}{u:Value}{y:List Value}(h:PS w W g q nd v n x)(hk:k<6)(I:W.grownBy W2 (v k).ownBlock)(ho:W2.ownsRow (g+1) (TY k) (SZ k) u m y)
  (hw:u.ownBlock=(v k).ownBlock\/u.ownBlock=some W.heap.size):Mid W2 g q nd v/\PS w (W2.setCell (aD g k) u) g q nd (AU v k u) (AU n k m) (AU x k y):=by
 have O:g<W.heap.size:=lL_ h.own.gB h.own.lt;have Y:=h.nd.lt;have hz:=I.size;have G:∀b,(v k).ownBlock=some b->g+1<=b:=λb e=>((h.own.own k hk).lt b e).1;have K:W2.heap[g]?=W.heap[g]?:=I.block g O (λe=>by have:=G g e.symm;omega);have L:W2.heap[q]?=W.heap[q]?:=I.block q Y (λe=>h.aq k hk e.symm);have D:∀j,W2.cell? (aD g j)=W.cell? (aD g j):=λj=>World.cell?_of_block (a:=⟨g,j,none⟩) K;have R:∀j,W2.frozen? (aD g j)=W.frozen? (aD g j):=λj=>World.frozen?_of_block (a:=⟨g,j,none⟩) K;have o:∀j,W2.cell? (aD q j)=W.cell? (aD q j):=λj=>World.cell?_of_block (a:=⟨q,j,none⟩) L;have M:=h.mid;have J:Mid W2 g q nd v:=⟨oM,oM,M.gq,M.qg,(D 0).trans M.c0,(D 1).trans M.c1,(D 2).trans M.c2,(D 3).trans M.c3,(D 4).trans M.c4,(D 5).trans M.c5,λj=>(R j).trans (M.warm j),(o 0).trans M.d0,(o 1).trans M.d1,(o 2).trans M.d2,(o 3).trans M.d3,(o 4).trans M.d4,(o 5).trans M.d5⟩;have a6:=h.lo;have a7:=h.gq;have Z:(W2.setCell (aD g k) u).heap[q]?=W2.heap[q]?:=Below.heap_setCell W2 ⟨g,k,none⟩ u q M.qg;have X:(W2.setCell (aD g k) u).heap[w.heap.size]?=W.heap[w.heap.size]?:=(Below.heap_setCell W2 ⟨g,k,none⟩ u _ (show w.heap.size≠g by omega)).trans (I.block _ h.six.lt (λe=>by have:=G _ e.symm;omega));have d:∀j,(W2.setCell (aD g k) u).cell? (aD q j)=W.cell? (aD q j):=λj=>(World.cell?_of_block (a:=⟨q,j,none⟩) Z).trans (o j);refine⟨J,⟨(h.hb.grown I h.hb.size (λb e=>by have:=G b e;omega)).setCell (p:=⟨g,k,none⟩) (by show w.heap.size<=g;omega) u,h.six.kept X,h.own.grow hk I ho hw,⟨by simp;omega,(d 0).trans M.d0,(d 1).trans M.d1,(d 2).trans M.d2,(d 3).trans M.d3,(d 4).trans M.d4,(d 5).trans M.d5⟩,h.lo,h.gq,λj hj=>?_⟩⟩;by_cases e:j=k
 ·subst e
  simp only[AU,dD];rcases hw with hw | hw
  ·rw[hw];exact h.aq j hj
  rw[hw];simp;omega
 simp only[AU,aC e];exact h.aq j hj
def we8.congr{v':Nat->Value}{G:Nat->Nat}{J:Nat->List Value}(h:we8 w g B v n x)(o:∀k,k<6->v k=v' k)(K:∀k,k<6->n k=G k)(L:∀k,k<6->x k=J k):we8 w g B v' G J :=
 ⟨h.gB,h.lt,λk d=>by rw[<-o k d,<-K k d,<-L k d];exact h.own k d,λj k I d D=>by rw[<-o j I,<-o k d];exact h.apart j k I d D,λk d=>by rw[<-o k d];exact h.cell k d,h.warm⟩
end Go.Proofs.YthoegkcpmgalbaaGreatDoor
