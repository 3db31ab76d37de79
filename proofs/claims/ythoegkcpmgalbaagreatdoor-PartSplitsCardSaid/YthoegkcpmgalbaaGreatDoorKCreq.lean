import Derived.Test.YthoegkcpmgalbaaGreatDoorKCrest
set_option maxHeartbeats 8000000
set_option linter.all false
namespace Go.Proofs.YthoegkcpmgalbaaGreatDoor
open Go.RowKit
variable{b o:Nat}{v:Bool}{w w1:World}
def zo4(n:Nd)(h:FC n=v)(w:World):Calls Tryz.prog 159 #[DP n] w λe w'=>e=.returned (.bool v)/\Below w.heap.size w w':=by have:=zY9 n w;rwa [h]at this
def zm8(n:Nd)(h:DU n=v)(w:World):Calls Tryz.prog 160 #[DP n] w λe w'=>e=.returned (.bool v)/\Below w.heap.size w w':=by have:=zJ1 n w;rwa [h]at this
def zy8(n:Nd)(h:DH n=v)(w:World):Calls Tryz.prog 161 #[DP n] w λe w'=>e=.returned (.bool v)/\Below w.heap.size w w':=by have:=zZ0 n w;rwa [h]at this
def ym0(n:Nd)(h:DQ n=v)(w:World):Calls Tryz.prog 162 #[DP n] w λe w'=>e=.returned (.bool v)/\Below w.heap.size w w':=by have:=zZ1 n w;rwa [h]at this
def yw9(b:Nat)(n:Nd)(r:Rd)(w:World)(h:CA w b r)(h3:r.sy.length<300)(J:0<=n.depth)(K:n.depth<=24)(L:FC n=true->1<=n.depth) :
  Calls Tryz.prog 122 #[pA b 0,nI r.sy.length,DP n] w λe w'=>e=.returned (nI (CT r r.sy.length n).1)/\AB b w w'/\((CT r r.sy.length n).1=0->CA w' b (CT r r.sy.length n).2):=by
 obtain⟨nd,I,nm,nu,D,G⟩:=n;obtain⟨d,g5⟩:∃d:Nat,nd=d:=⟨nd.toNat,by simp only at J;omega⟩;subst g5;have h4:d<=24:=by simp only at K;omega
 have i0:(d:Int)<25:=oM;clear J K;have W:Hi _:=h.names;have Z:Hi _:=h.rest;have HD:Hi (FC (⟨d,I,nm,nu,D,G⟩:Nd)=true->1<=d):=λhx=>by have:=L hx;simp only at this;omega
 have h6:=h.names.lt;have b9:w.heap.size≠b:=oM;clear h L;have J:Hi (∀o,Below w.heap.size w (w.alloc o)):=λo=>(Below.refl _ _).alloc (nR_ _) _
 have X:Hi (∀o,o=Obj.cells #[nI (d:Int),nI I,.string nm,nI nu,nI D,nI G] 53 (0,0)->NdC (w.alloc o) w.heap.size (⟨d,I,nm,nu,D,G⟩:Nd)):=by rintro o rfl;exact⟨by simp,by simp[go_sem],by simp[go_sem],by simp[go_sem],by simp[go_sem],by simp[go_sem],by simp[go_sem]⟩
 have K:Hi (∃s,s=CO r.sc r.ar (⟨d,I,nm,nu,D,G⟩:Nd)):=⟨_,rfl⟩;obtain⟨⟨sy,co,O,L⟩,R⟩:=K.o;have HS:Hi _:=R.symm;clear R K
 have R:Hi (∀w',AI w' b r.sc r.ar->Calls Tryz.prog 158 #[pA b 0,DP (⟨d,I,nm,nu,D,G⟩:Nd)] w' λe g9=>e=.returned (.tuple #[nI sy,nI co])/\CX b w' g9 O L):=λw' h'=>by
  have:=zT4 b (⟨d,I,nm,nu,D,G⟩:Nd) r.sc r.ar w' h'
  rwa [HS.o]at this
 by_cases c7:co=0
 case neg =>
  have Y:(co==0)=false:=by rw[aF];exact c7
  have HE:Hi (CT r r.sy.length (⟨d,I,nm,nu,D,G⟩:Nd)=(co,r)):=by unfold Hi CT;rw[HS.o];simp[c7]
  go_enter Tryz.func122,Tryz.ntmps122;go_wp2_with fail
  go_region_with (go_at_call 158;refine mq (R.o _ (W.o.below (by first | exact(J.o _).drew | exact J.o _))) λw1 K=>?_)
  all_goals
   go_wp2_with fail;go_ret;rw[HE.o];refine⟨rfl,?_,λh0=>absurd h0 c7⟩
   first
    | exact(CX.after W.o (J.o _).drew K).beside
    | exact(CX.after W.o (J.o _) K).beside
 subst c7
 have HG:Hi (CT r r.sy.length (⟨d,I,nm,nu,D,G⟩:Nd)=if FC (⟨d,I,nm,nu,D,G⟩:Nd)&&(DU (⟨d,I,nm,nu,D,G⟩:Nd) != r.nu (d-1)) then (42,r) else if DH (⟨d,I,nm,nu,D,G⟩:Nd)&&r.si.length==12 then (46,r) else (0,⟨O,L,r.sy++[sy],r.so++[if DH (⟨d,I,nm,nu,D,G⟩:Nd) then (r.si.length:Int) else -1],if DH (⟨d,I,nm,nu,D,G⟩:Nd) then r.si++[r.sy.length] else r.si,λx=>if x=d then DQ (⟨d,I,nm,nu,D,G⟩:Nd) else r.nu x⟩)):=by unfold Hi CT;rw[HS.o];simp only[show((d:Int)-1).toNat=d-1 from by omega,aO];simp
 go_enter Tryz.func122,Tryz.ntmps122;go_wp2_with fail
 go_region_with (go_at_call 158;refine mq (R.o _ (W.o.below (by first | exact(J.o _).drew | exact J.o _))) λw1 K=>?_)
 have Y:Hi (CX b w w1 O L):=by
  first
   | exact CX.after W.o (J.o _).drew K
   | exact CX.after W.o (J.o _) K
 have b3:Hi (NdC w1 w.heap.size (⟨d,I,nm,nu,D,G⟩:Nd)):=by
  first
   | exact((X.o _ rfl).below (Below.refl _ _).drew).beside b9 K.beside
   | exact(X.o _ rfl).beside b9 K.beside
 have b2:=hid (Z.o.keep Y.o.keep);have b0:=hid Y.o.names;have b5:=hid Y.o.beside;clear K R X J W Z Y;obtain⟨z1,c0,c1,c2,c3,c4,c5⟩:=b3.o;simp only at c0 c1 c2 c3 c4 c5;have R:=b0.o.lt;cases hX:FC (⟨d,I,nm,nu,D,G⟩:Nd)
 case' false =>
  have W:Hi (CT r r.sy.length (⟨d,I,nm,nu,D,G⟩:Nd)=if DH (⟨d,I,nm,nu,D,G⟩:Nd)&&r.si.length==12 then (46,r) else (0,⟨O,L,r.sy++[sy],r.so++[if DH (⟨d,I,nm,nu,D,G⟩:Nd) then (r.si.length:Int) else -1],if DH (⟨d,I,nm,nu,D,G⟩:Nd) then r.si++[r.sy.length] else r.si,λx=>if x=d then DQ (⟨d,I,nm,nu,D,G⟩:Nd) else r.nu x⟩)):=by unfold Hi;rw[HG.o,hX];simp
  clear HG;go_wp2_with fail;refine wp_region_held_drew (S:=λw'=>w'.cell? (aD w.heap.size 0)=some (nI d)/\w'.cell? (aD w.heap.size 1)=some (nI I)/\w'.cell? (aD w.heap.size 2)=some (.string nm)/\w'.cell? (aD w.heap.size 3)=some (nI nu)/\w'.cell? (aD w.heap.size 4)=some (nI D)/\w'.cell? (aD w.heap.size 5)=some (nI G)) kR (by(try dsimp only);go_keep) (λb6=>?_);refine wpAnyH_take (i:=0) (v:=?_) rfl kR kR kR (λ_ _ _ h=>h) (Or.inl ⟨by rfl,?_⟩) (by assumption) ?_;rotate_left
  ·intro w Y;(try dsimp only at Y);first|(go_simp;done) | (go_simp;with_reducible rfl)
  (try simp only[pu]);refine wpAnyH_ready (rs:=[1]) kR sI ?_;refine AllReadyH.cons rfl (λK hK=>?_) AllReadyH.nil;go_simp;refine mq (zo4 (⟨d,I,nm,nu,D,G⟩:Nd) hX _) λw3 J=>?_;have Z:Hi (NdC w3 w.heap.size (⟨d,I,nm,nu,D,G⟩:Nd)):=(b3.o.below (Below.refl _ _).drew).below J;obtain⟨z3,q0,q1,q2,q3,q4,q5⟩:=Z.o;simp only at q0 q1 q2 q3 q4 q5;have X:Hi (AZ w3 b r):=(b2.o.below R (Below.refl _ _).drew).below R J;have b1:Hi (AI w3 b O L):=(b0.o.below (Below.refl _ _).drew).below J;have a7:=hid (b5.o.drew.trans (AB.of J));have a6:b<w3.heap.size:=lL_ R J.size;go_wp2_with fail;refine hK.out _ _ (by(try dsimp only);go_keep) (λb6=>?_);clear hK K;(try simp only[pu]);refine wpAnyH_take (i:=2) (v:=?_) rfl kR kR kR (λ_ _ _ h=>h) (Or.inl ⟨by rfl,?_⟩) (by assumption) ?_;rotate_left
  ·intro w Y;(try dsimp only at Y);first|(go_simp;done) | (go_simp;with_reducible rfl)
  (try simp only[pu]);refine wpAnyH_take (i:=3) (v:=undef) rfl kR kR kR (λ_ _ _ h=>h) (Or.inr ⟨by rfl,rfl⟩) (by assumption) ?_;(try simp only[pu]);refine wpAnyH_take (i:=4) (v:=undef) rfl kR kR kR (λ_ _ _ h=>h) (Or.inr ⟨by rfl,rfl⟩) (by assumption) ?_;(try simp only[pu]);refine wpAnyH_take (i:=5) (v:=undef) rfl kR kR kR (λ_ _ _ h=>h) (Or.inr ⟨by rfl,rfl⟩) (by assumption) ?_;(try simp only[pu]);refine wpAnyH_take (i:=6) (v:=undef) rfl kR kR kR (λ_ _ _ h=>h) (Or.inr ⟨by rfl,rfl⟩) (by assumption) ?_;(try simp only[pu]);refine wpAnyH_take (i:=7) (v:=undef) rfl kR kR kR (λ_ _ _ h=>h) (Or.inr ⟨by rfl,rfl⟩) (by assumption) ?_;(try simp only[pu]);refine wpAnyH_take (i:=8) (v:=undef) rfl kR kR kR (λ_ _ _ h=>h) (Or.inr ⟨by rfl,rfl⟩) (by assumption) ?_;(try simp only[pu]);refine wpAnyH_take (i:=9) (v:=undef) rfl kR kR kR (λ_ _ _ h=>h) (Or.inr ⟨by rfl,rfl⟩) (by assumption) ?_;(try simp only[pu]);refine wpAnyH_take (i:=10) (v:=undef) rfl kR kR kR (λ_ _ _ h=>h) (Or.inr ⟨by rfl,rfl⟩) (by assumption) ?_;(try simp only[pu]);refine wpAnyH_take (i:=11) (v:=undef) rfl kR kR kR (λ_ _ _ h=>h) (Or.inr ⟨by rfl,rfl⟩) (by assumption) ?_;(try simp only[pu]);refine wpAnyH_take (i:=12) (v:=undef) rfl kR kR kR (λ_ _ _ h=>h) (Or.inr ⟨by rfl,rfl⟩) (by assumption) ?_;(try simp only[pu]);refine wpAnyH_take (i:=13) (v:=undef) rfl kR kR kR (λ_ _ _ h=>h) (Or.inr ⟨by rfl,rfl⟩) (by assumption) ?_;(try simp only[pu]);refine wpAnyH_take (i:=14) (v:=?_) rfl kR kR kR (λ_ _ _ h=>h) (Or.inl ⟨by rfl,?_⟩) (by assumption) ?_;rotate_left
  ·intro w Y;(try dsimp only at Y);first|(go_simp;done) | (go_simp;with_reducible rfl)
  (try simp only[pu]);refine wpAnyH_take (i:=15) (v:=?_) rfl kR kR kR (λ_ _ _ h=>h) (Or.inl ⟨by rfl,?_⟩) (by assumption) ?_;rotate_left
  ·intro w Y;(try dsimp only at Y);first|(go_simp;done) | (go_simp;with_reducible rfl)
  (try simp only[pu]);refine wpAnyH_done kR ?_ _;clear c0 c1 c2 c3 c4 c5
 case' true =>
  have hp:1<=d:=HD.o hX;obtain⟨y,K⟩:∃y,d-1=y:=⟨_,rfl⟩;have h8:IntKind.i64.wrap ((d:Int)-1)=(y:Int):=by rw[Go.IntWalk.i64_in _ oM];omega
  have i9:(y:Int)<25:=oM;have a5:y<25:=oM;rw[K]at HG;clear K;have cn:=b2.o.nu y a5
  cases hM:DU (⟨d,I,nm,nu,D,G⟩:Nd)<;>cases hV:r.nu y<;>rw[hV]at cn
  case' false.false =>
   have W:Hi (CT r r.sy.length (⟨d,I,nm,nu,D,G⟩:Nd)=if DH (⟨d,I,nm,nu,D,G⟩:Nd)&&r.si.length==12 then (46,r) else (0,⟨O,L,r.sy++[sy],r.so++[if DH (⟨d,I,nm,nu,D,G⟩:Nd) then (r.si.length:Int) else -1],if DH (⟨d,I,nm,nu,D,G⟩:Nd) then r.si++[r.sy.length] else r.si,λx=>if x=d then DQ (⟨d,I,nm,nu,D,G⟩:Nd) else r.nu x⟩)):=by unfold Hi;rw[HG.o,hX,hM,hV];simp
   clear HG;go_wp2_with fail
   go_region_held3 (λw'=>w'.cell? (aD w.heap.size 0)=some (nI d)/\w'.cell? (aD w.heap.size 1)=some (nI I)/\w'.cell? (aD w.heap.size 2)=some (.string nm)/\w'.cell? (aD w.heap.size 3)=some (nI nu)/\w'.cell? (aD w.heap.size 4)=some (nI D)/\w'.cell? (aD w.heap.size 5)=some (nI G)/\w'.cell? ⟨b,629+y,none⟩=some (.bool false)) (go_keep)
    (first
    |(go_at_call 159;refine mq (zo4 (⟨d,I,nm,nu,D,G⟩:Nd) hX _) λw2 K=>?_;have a1:Hi (NdC w2 w.heap.size (⟨d,I,nm,nu,D,G⟩:Nd)):=(b3.o.below (Below.refl _ _).drew).below K;obtain⟨z2,p0,p1,p2,p3,p4,p5⟩:=a1.o;simp only at p0 p1 p2 p3 p4 p5;have a4:Hi (AZ w2 b r):=(b2.o.below R (Below.refl _ _).drew).below R K;have a9:Hi (AI w2 b O L):=(b0.o.below (Below.refl _ _).drew).below K;have a8:=hid (b5.o.drew.trans (AB.of K));have a3:=a4.o.nu y a5;rw[hV]at a3;have a2:b<w2.heap.size:=cY R K.size)
    |(go_at_call 160;refine mq (zm8 (⟨d,I,nm,nu,D,G⟩:Nd) hM _) λw3 J=>?_;have Z:=hid (a1.o.below J);obtain⟨z3,q0,q1,q2,q3,q4,q5⟩:=Z.o;simp only at q0 q1 q2 q3 q4 q5;have X:=hid (a4.o.below a2 J);have b1:=hid (a9.o.below J);have a7:=hid (a8.o.trans (AB.of J));have Y:=X.o.nu y a5;rw[hV]at Y;have a6:b<w3.heap.size:=cY a2 J.size))
   clear c0 c1 c2 c3 c4 c5 p0 p1 p2 p3 p4 p5 cn a3 Y
  case false.true =>
   have W:Hi (CT r r.sy.length (⟨d,I,nm,nu,D,G⟩:Nd)=(42,r)):=by unfold Hi;rw[HG.o,hX,hM,hV];simp
   clear HG;go_wp2_with fail
   go_region_held3 (λw'=>w'.cell? (aD w.heap.size 0)=some (nI d)/\w'.cell? (aD w.heap.size 1)=some (nI I)/\w'.cell? (aD w.heap.size 2)=some (.string nm)/\w'.cell? (aD w.heap.size 3)=some (nI nu)/\w'.cell? (aD w.heap.size 4)=some (nI D)/\w'.cell? (aD w.heap.size 5)=some (nI G)/\w'.cell? ⟨b,629+y,none⟩=some (.bool true)) (go_keep)
    (first
    |(go_at_call 159;refine mq (zo4 (⟨d,I,nm,nu,D,G⟩:Nd) hX _) λw2 K=>?_;have a1:Hi (NdC w2 w.heap.size (⟨d,I,nm,nu,D,G⟩:Nd)):=(b3.o.below (Below.refl _ _).drew).below K;obtain⟨z2,p0,p1,p2,p3,p4,p5⟩:=a1.o;simp only at p0 p1 p2 p3 p4 p5;have a4:Hi (AZ w2 b r):=(b2.o.below R (Below.refl _ _).drew).below R K;have a9:Hi (AI w2 b O L):=(b0.o.below (Below.refl _ _).drew).below K;have a8:=hid (b5.o.drew.trans (AB.of K));have a3:=a4.o.nu y a5;rw[hV]at a3;have a2:b<w2.heap.size:=cY R K.size)
    |(go_at_call 160;refine mq (zm8 (⟨d,I,nm,nu,D,G⟩:Nd) hM _) λw3 J=>?_;have Z:=hid (a1.o.below J);obtain⟨z3,q0,q1,q2,q3,q4,q5⟩:=Z.o;simp only at q0 q1 q2 q3 q4 q5;have X:=hid (a4.o.below a2 J);have b1:=hid (a9.o.below J);have a7:=hid (a8.o.trans (AB.of J));have Y:=X.o.nu y a5;rw[hV]at Y;have a6:b<w3.heap.size:=cY a2 J.size))
   clear c0 c1 c2 c3 c4 c5 p0 p1 p2 p3 p4 p5 cn a3 Y;go_wp2_with fail;go_ret;rw[W.o];exact⟨rfl,a7.o,λh0=>absurd h0 sI⟩
  case true.false =>
   have W:Hi (CT r r.sy.length (⟨d,I,nm,nu,D,G⟩:Nd)=(42,r)):=by unfold Hi;rw[HG.o,hX,hM,hV];simp
   clear HG;go_wp2_with fail
   go_region_held3 (λw'=>w'.cell? (aD w.heap.size 0)=some (nI d)/\w'.cell? (aD w.heap.size 1)=some (nI I)/\w'.cell? (aD w.heap.size 2)=some (.string nm)/\w'.cell? (aD w.heap.size 3)=some (nI nu)/\w'.cell? (aD w.heap.size 4)=some (nI D)/\w'.cell? (aD w.heap.size 5)=some (nI G)/\w'.cell? ⟨b,629+y,none⟩=some (.bool false)) (go_keep)
    (first
    |(go_at_call 159;refine mq (zo4 (⟨d,I,nm,nu,D,G⟩:Nd) hX _) λw2 K=>?_;have a1:Hi (NdC w2 w.heap.size (⟨d,I,nm,nu,D,G⟩:Nd)):=(b3.o.below (Below.refl _ _).drew).below K;obtain⟨z2,p0,p1,p2,p3,p4,p5⟩:=a1.o;simp only at p0 p1 p2 p3 p4 p5;have a4:Hi (AZ w2 b r):=(b2.o.below R (Below.refl _ _).drew).below R K;have a9:Hi (AI w2 b O L):=(b0.o.below (Below.refl _ _).drew).below K;have a8:=hid (b5.o.drew.trans (AB.of K));have a3:=a4.o.nu y a5;rw[hV]at a3;have a2:b<w2.heap.size:=cY R K.size)
    |(go_at_call 160;refine mq (zm8 (⟨d,I,nm,nu,D,G⟩:Nd) hM _) λw3 J=>?_;have Z:=hid (a1.o.below J);obtain⟨z3,q0,q1,q2,q3,q4,q5⟩:=Z.o;simp only at q0 q1 q2 q3 q4 q5;have X:=hid (a4.o.below a2 J);have b1:=hid (a9.o.below J);have a7:=hid (a8.o.trans (AB.of J));have Y:=X.o.nu y a5;rw[hV]at Y;have a6:b<w3.heap.size:=cY a2 J.size))
   clear c0 c1 c2 c3 c4 c5 p0 p1 p2 p3 p4 p5 cn a3 Y;go_wp2_with fail;go_ret;rw[W.o];exact⟨rfl,a7.o,λh0=>absurd h0 sI⟩
  case' true.true =>
   have W:Hi (CT r r.sy.length (⟨d,I,nm,nu,D,G⟩:Nd)=if DH (⟨d,I,nm,nu,D,G⟩:Nd)&&r.si.length==12 then (46,r) else (0,⟨O,L,r.sy++[sy],r.so++[if DH (⟨d,I,nm,nu,D,G⟩:Nd) then (r.si.length:Int) else -1],if DH (⟨d,I,nm,nu,D,G⟩:Nd) then r.si++[r.sy.length] else r.si,λx=>if x=d then DQ (⟨d,I,nm,nu,D,G⟩:Nd) else r.nu x⟩)):=by unfold Hi;rw[HG.o,hX,hM,hV];simp
   clear HG;go_wp2_with fail
   go_region_held3 (λw'=>w'.cell? (aD w.heap.size 0)=some (nI d)/\w'.cell? (aD w.heap.size 1)=some (nI I)/\w'.cell? (aD w.heap.size 2)=some (.string nm)/\w'.cell? (aD w.heap.size 3)=some (nI nu)/\w'.cell? (aD w.heap.size 4)=some (nI D)/\w'.cell? (aD w.heap.size 5)=some (nI G)/\w'.cell? ⟨b,629+y,none⟩=some (.bool true)) (go_keep)
    (first
    |(go_at_call 159;refine mq (zo4 (⟨d,I,nm,nu,D,G⟩:Nd) hX _) λw2 K=>?_;have a1:Hi (NdC w2 w.heap.size (⟨d,I,nm,nu,D,G⟩:Nd)):=(b3.o.below (Below.refl _ _).drew).below K;obtain⟨z2,p0,p1,p2,p3,p4,p5⟩:=a1.o;simp only at p0 p1 p2 p3 p4 p5;have a4:Hi (AZ w2 b r):=(b2.o.below R (Below.refl _ _).drew).below R K;have a9:Hi (AI w2 b O L):=(b0.o.below (Below.refl _ _).drew).below K;have a8:=hid (b5.o.drew.trans (AB.of K));have a3:=a4.o.nu y a5;rw[hV]at a3;have a2:b<w2.heap.size:=cY R K.size)
    |(go_at_call 160;refine mq (zm8 (⟨d,I,nm,nu,D,G⟩:Nd) hM _) λw3 J=>?_;have Z:=hid (a1.o.below J);obtain⟨z3,q0,q1,q2,q3,q4,q5⟩:=Z.o;simp only at q0 q1 q2 q3 q4 q5;have X:=hid (a4.o.below a2 J);have b1:=hid (a9.o.below J);have a7:=hid (a8.o.trans (AB.of J));have Y:=X.o.nu y a5;rw[hV]at Y;have a6:b<w3.heap.size:=cY a2 J.size))
   clear c0 c1 c2 c3 c4 c5 p0 p1 p2 p3 p4 p5 cn a3 Y
 all_goals
  cases hT:DH (⟨d,I,nm,nu,D,G⟩:Nd)
  case' false =>
   have b8:Hi (CT r r.sy.length (⟨d,I,nm,nu,D,G⟩:Nd)=(0,⟨O,L,r.sy++[sy],r.so++[-1],r.si,λx=>if x=d then DQ (⟨d,I,nm,nu,D,G⟩:Nd) else r.nu x⟩)):=by unfold Hi;rw[W.o,hT];simp
   clear W
  case' true =>
   by_cases Y:r.si.length=12
   case pos =>
    have b8:Hi (CT r r.sy.length (⟨d,I,nm,nu,D,G⟩:Nd)=(46,r)):=by unfold Hi;rw[W.o,hT];simp[Y]
    clear W;go_wp2_with fail;refine mq (zy8 (⟨d,I,nm,nu,D,G⟩:Nd) hT _) λw4 K=>?_;have d0:=hid (Z.o.below K);have b4:=hid (X.o.below a6 K);have d6:=hid (b1.o.below K);have d2:=hid (a7.o.trans (AB.of K));have lt4:b<w4.heap.size:=lL_ a6 K.size;clear q0 q1 q2 q3 q4 q5;obtain⟨z4,q0,q1,q2,q3,q4,q5⟩:=d0.o;simp only at q0 q1 q2 q3 q4 q5;have f4:=b4.o.found;rw[Y]at f4;go_wp2_with fail;go_ret;rw[b8.o];exact⟨rfl,d2.o,λh0=>absurd h0 sI⟩
   case' neg =>
    have f3:r.si.length<12:=oH X.o.sites
    have i5:(r.si.length:Int)<12:=oM;have i3:((r.si.length:Int)==12)=false:=by rw[aF];omega
    have b8:Hi (CT r r.sy.length (⟨d,I,nm,nu,D,G⟩:Nd)=(0,⟨O,L,r.sy++[sy],r.so++[(r.si.length:Int)],r.si++[r.sy.length],λx=>if x=d then DQ (⟨d,I,nm,nu,D,G⟩:Nd) else r.nu x⟩)):=by unfold Hi;rw[W.o,hT];simp[Y]
    clear W Y
  all_goals
   go_wp2_with fail;refine mq (zy8 (⟨d,I,nm,nu,D,G⟩:Nd) hT _) λw4 K=>?_;have d0:=hid (Z.o.below K);have b4:=hid (X.o.below a6 K);have d6:=hid (b1.o.below K);have d2:=hid (a7.o.trans (AB.of K));have lt4:b<w4.heap.size:=lL_ a6 K.size;clear q0 q1 q2 q3 q4 q5;obtain⟨z4,q0,q1,q2,q3,q4,q5⟩:=d0.o;simp only at q0 q1 q2 q3 q4 q5;have f4:=b4.o.found;go_wp2_with fail;obtain⟨wv,f1⟩:∃v,DQ (⟨d,I,nm,nu,D,G⟩:Nd)=v:=⟨_,rfl⟩;have d4:Hi _:=f1;have h1:=b4.o.nu d oM;have g8:=d6.o.warm;have h9:¬w.heap.size=b:=b9;have i6:¬b=w.heap.size:=λe=>b9 e.symm
   go_region_held3 (λw'=>w'.cell? (aD w.heap.size 0)=some (nI d)/\w'.cell? (aD w.heap.size 1)=some (nI I)/\w'.cell? (aD w.heap.size 2)=some (.string nm)/\w'.cell? (aD w.heap.size 3)=some (nI nu)/\w'.cell? (aD w.heap.size 4)=some (nI D)/\w'.cell? (aD w.heap.size 5)=some (nI G)) (go_keep)
    (first
    |(go_at_call 162;refine mq (ym0 (⟨d,I,nm,nu,D,G⟩:Nd) d4.o _) λw5 c9=>?_;have f0:Hi (NdC w5 w.heap.size (⟨d,I,nm,nu,D,G⟩:Nd)):=(d0.o.below (Below.refl _ _).drew).below c9;obtain⟨z5,s0,s1,s2,s3,s4,s5⟩:=f0.o;simp only at s0 s1 s2 s3 s4 s5;have g2:Hi (AZ w5 b r):=(b4.o.below lt4 (Below.refl _ _).drew).below lt4 c9;have f7:Hi (AI w5 b O L):=(d6.o.below (Below.refl _ _).drew).below c9;have g7:=hid (d2.o.drew.trans (AB.of c9));have f9:=g2.o.nu d oM;have h2:=f7.o.warm)
    | fail)
   have b7:Hi (AZ (w5.setCell ⟨b,629+d,none⟩ (.bool wv)) b { r with nu:=λx=>if x=d then wv else r.nu x }):=g2.o.nu_set oM wv;have d5:Hi (AI (w5.setCell ⟨b,629+d,none⟩ (.bool wv)) b O L):=f7.o.hi oM f9 _;have g3:Hi (AB b w (w5.setCell ⟨b,629+d,none⟩ (.bool wv))):=g7.o.set _ _;have f2:Hi (NdC (w5.setCell ⟨b,629+d,none⟩ (.bool wv)) w.heap.size (⟨d,I,nm,nu,D,G⟩:Nd)):=f0.o.beside b9 (AB.set (AB.of (Below.refl _ _)) _ _);clear q0 q1 q2 q3 q4 q5 s0 s1 s2 s3 s4 s5 h1 f9 g8 h2 f4 f1 z5;obtain⟨w6,d7⟩:=qq (w5.setCell ⟨b,629+d,none⟩ (.bool wv));rw[<-d7]at b7 d5 g3 f2;rw[<-d7]
   try clear b6
   clear d7;obtain⟨i7,d9⟩:=b7.o.room (16+r.sy.length) oM oM;obtain⟨h5,g1⟩:=b7.o.room (316+r.sy.length) oM oM;have g4:=d5.o.warm;have i8:(r.sy.length:Int)<300:=oM;have h7:¬316+r.sy.length=16+r.sy.length:=oM;obtain⟨z6,s0,s1,s2,s3,s4,s5⟩:=f2.o;simp only at s0 s1 s2 s3 s4 s5;go_wp2_with fail;have f5:Hi (AZ ((w6.setCell ⟨b,16+r.sy.length,none⟩ (nI sy)).setCell ⟨b,316+r.sy.length,none⟩ (nI (-1))) b { r with sy:=r.sy++[sy],so:=r.so++[-1],nu:=λx=>if x=d then wv else r.nu x }):=b7.o.push h3 sy (-1)
   have d1:Hi (AI ((w6.setCell ⟨b,16+r.sy.length,none⟩ (nI sy)).setCell ⟨b,316+r.sy.length,none⟩ (nI (-1))) b O L):=by obtain⟨v1,r1⟩:=zg8 (v:=nI sy) d9 b7.o.room (316+r.sy.length) oM oM;exact(d5.o.hi oM d9 _).hi oM r1 _
   have f6:Hi (AB b w ((w6.setCell ⟨b,16+r.sy.length,none⟩ (nI sy)).setCell ⟨b,316+r.sy.length,none⟩ (nI (-1)))):=(g3.o.set _ _).set _ _;obtain⟨w7,d3⟩:=qq ((w6.setCell ⟨b,16+r.sy.length,none⟩ (nI sy)).setCell ⟨b,316+r.sy.length,none⟩ (nI (-1)));rw[<-d3]at f5 d1 f6;rw[<-d3];clear d3 d9 g1 g4 s0 s1 s2 s3 s4 s5 z6;refine mq (zy8 (⟨d,I,nm,nu,D,G⟩:Nd) hT _) λw8 d8=>?_;have Y:Hi _:=f5.o.below d1.o.lt d8;have c6:=hid (d1.o.below d8);have g0:=hid (f6.o.trans (AB.of d8))
  ·have f8:=Y.o.found
   obtain⟨v1,m1⟩:=Y.o.room (316+r.sy.length) oM oM;obtain⟨v2,m2⟩:=Y.o.room (616+r.si.length) oM oM;have i2:¬628=316+r.sy.length:=oM;have j0:¬616+r.si.length=316+r.sy.length:=oM;have i1:¬628=616+r.si.length:=oM;have i4:=c6.o.warm;have HL:=hid X.o.len;have HW:Hi _:=Y.o.site rfl r.sy.length f3;have c8:Hi _:=Y.o.site_names c6.o rfl r.sy.length f3;unfold Hi at HW c8;simp only[HL.o]at HW c8;have HV:Hi _:=HW;have g6:Hi _:=c8;clear HW c8;go_wp2_with fail
   go_region
   go_wp2_with fail
   go_region
   go_wp2_with fail;go_ret;rw[b8.o];exact⟨rfl,AB.drew (AB.drew (((g0.o.set _ _).set _ _).set _ _)),λ_=>⟨g6.o.below ((Below.refl _ _).drew.drew),by rw[d4.o];exact((HV.o.other _ _).below (by simpa using c6.o.lt) ((Below.refl _ _).drew.drew))⟩⟩
  go_wp2_with fail;go_ret;rw[b8.o];exact⟨rfl,g0.o,λ_=>⟨c6.o,by rw[d4.o];exact Y.o.other _ _⟩⟩
def rd0:Rd:=⟨[],[],[],[],[],λ_=>false⟩
def BM:List Nd->Rd->Int×Int×Rd
 | [],r=>(0,0,r)
 | n::t,r=>if (CT r r.sy.length n).1=0 then BM t (CT r r.sy.length n).2 else ((CT r r.sy.length n).1,r.sy.length,r)
def AP(ns:List Nd)(r:Rd):Int×Int×Rd:=if (BL ns).1=0 then BM ns r else ((BL ns).1,(BL ns).2,r)
def zy9(ns:List Nd)(i:Nat)(r:Rd)(h:i<ns.length):BM (ns.drop i) r=if (CT r r.sy.length ns[i]).1=0 then BM (ns.drop (i+1)) (CT r r.sy.length ns[i]).2 else ((CT r r.sy.length ns[i]).1,r.sy.length,r):=by rw[aP h];rfl
def yv1(r:Rd)(i:Nat)(n:Nd)(h:(CT r i n).1=0):(CT r i n).2.sy.length=r.sy.length+1:=by
 revert h
 unfold CT;simp only
 split
 ·intro h;simp_all
 split
 ·intro h;simp_all
 split
 ·intro h;simp_all
 intro _;simp
def zD5:∀(ns:List Nd) (i:Nat) (d:List AW) (g:Bool),(FD ns i d g).1=0->∀n∈ns,1<=n.depth/\n.depth<=24
 | [],_,_,_,_,n,hn=>by simp at hn
 | m::ms,i,d,g,h,n,hn=>by
  rw[FD]at h
  split at h
  ·simp at h
  split at h
  ·simp at h
  rename_i h1 h2
  split at h
  ·simp at h
  rename_i h3
  rcases bJ.1 hn with rfl | hn
  ·have:DZ d g n.depth n.kind.toNat=true:=by simpa using h2
   unfold DZ at this;simp only[bM,bV]at this;omega
  exact zD5 ms _ _ _ h n hn
def zn9(ns:List Nd)(h:(BL ns).1=0):ns.length<=300/\∀n∈ns,1<=n.depth/\n.depth<=24:=by
 unfold BL at h
 split at h
 ·simp at h
 exact⟨oM,zD5 ns 0 [] false h⟩
def AV.beside{nb:Nat}{ns:List Nd}(h:AV w nb o ns)(I:nb≠b)(G:AB b w w1):AV w1 nb o ns:=by have D:∀o,w1.cell? (aD nb o)=w.cell? (aD nb o):=λo=>G.cell I h.lt;exact⟨Nat.lt_of_lt_of_le h.lt G.low.size,λi d=>by rw[D];exact h.c0 i d,λi d=>by rw[D];exact h.c1 i d,λi d=>by rw[D];exact h.c2 i d,λi d=>by rw[D];exact h.c3 i d,λi d=>by rw[D];exact h.c4 i d,λi d=>by rw[D];exact h.c5 i d⟩
def CA.below{r:Rd}(h:CA w b r)(d:Below w.heap.size w w1):CA w1 b r:=⟨h.names.below d,h.rest.below h.names.lt d⟩
def ym1(b nb o cap:Nat)(ns:List Nd)(w:World)(a7:∀n∈ns,n.Ok)(G:BE w)(d:AV w nb o ns)(a2:ns.length<=cap)(Y:cap<=maxLen)(b1:nb≠b)(h:CA w b rd0) :
  Calls Tryz.prog 90 #[pA b 0,.slice (sA nb o) ns.length cap] w λe w'=>e=.returned (.tuple #[nI (AP ns rd0).1,nI (AP ns rd0).2.1])/\AB b w w'/\((AP ns rd0).1=0->CA w' b (AP ns rd0).2.2):=by
 have D:Hi (∀_:Unit,Calls Tryz.prog 121 #[.slice (sA nb o) ns.length cap] w λe w'=>e=.returned (.tuple #[nI (BL ns).1,nI (BL ns).2])/\Below w.heap.size w w'):=λ_=>ya6 nb o cap ns w a7 G d a2 Y;have I:Hi _:=d;have HD:Hi _:=h;have hl:ns.length<=maxLen:=oM;unfold maxLen at hl;have b9:=d.lt;have c7:=h.names.lt;clear G d h;by_cases L:(BL ns).1=0
 case neg =>
  have G:((BL ns).1==0)=false:=by rw[aF];exact L
  have HE:Hi (AP ns rd0=((BL ns).1,(BL ns).2,rd0)):=by unfold Hi AP;rw[aC L]
  go_enter Tryz.func90,Tryz.ntmps90;go_wp2_with fail;refine mq (D.o ()) λw1 K=>?_;go_wp2_with fail
  go_ret2
  rw[HE.o];exact⟨rfl,AB.of K,λh'=>absurd h' L⟩
 have G:((BL ns).1==0)=true:=by rw[L];rfl
 obtain⟨b5,d⟩:=zn9 ns L;have a5:Hi _:=d;have HE:Hi (AP ns rd0=BM ns rd0):=by unfold Hi AP;rw[aG L]
 have a9:(ns.length:Int)<=300:=oM;clear d;generalize d:BL ns=sh at *;obtain⟨b8,c8⟩:=sh;simp only at L;subst L;clear d G;go_enter Tryz.func90,Tryz.ntmps90;go_wp2_with fail;refine mq (D.o ()) λw1 K=>?_;have b2:Hi (AV w1 nb o ns):=I.o.below K;have b4:Hi (CA w1 b rd0):=HD.o.below K;have a6:Hi (AB b w w1):=AB.of K;clear D I HD;go_wp2_with fail;go_loopw [22] (λt wr=>∃(i:Nat) (r:Rd),i<=ns.length/\t=nI i/\Hi (r.sy.length=i)/\Hi (BM ns rd0=BM (ns.drop i) r)/\Hi (AB b w wr)/\Hi (AV wr nb o ns)/\Hi (CA wr b r)) (λt _=>ns.length-(intOf t).toNat)
 case atStart=>exact⟨0,rd0,oM,rfl,rfl,rfl,a6.o,b2.o,b4.o⟩
 obtain⟨i,r,hi,rfl,hy,hr,a4,G,R⟩:=hrel;by_cases I:i<ns.length
 ·have c0:=G.o.c0 i I
  have c1:=G.o.c1 i I;have c2:=G.o.c2 i I;have c3:=G.o.c3 i I;have c4:=G.o.c4 i I;have c5:=G.o.c5 i I;have X:=a5.o ns[i] (cB _);have Z:Hi _:=hr.o.trans (zy9 ns i r I);clear hr;generalize ns[i]=nd at *;have c6:=G.o.lt;have b6:=R.o.names.lt;have b7:¬nb=wr.heap.size:=oM;obtain⟨pc,J⟩:=qq (CT r r.sy.length nd);obtain⟨d,r2⟩:=pc;have D:Hi _:=J.symm;clear J
  have O:Hi (∀w',CA w' b r->Calls Tryz.prog 122 #[pA b 0,nI i,DP nd] w' λe a1=>e=.returned (nI d)/\AB b w' a1/\(d=0->CA a1 b r2)):=λw' h'=>by have:=yw9 b nd r w' h' (oH hy.o) oM X.2 (λ_=>X.1);rw[D.o,hy.o]at this;exact this
  have b0:Hi (d=0->r2.sy.length=i+1):=λhc=>by have:=yv1 r r.sy.length nd (by rw[D.o];exact hc);rw[D.o,hy.o]at this;exact this
  have J:Hi (BM ns rd0=if d=0 then BM (ns.drop (i+1)) r2 else (d,(i:Int),r)):=by unfold Hi;rw[Z.o,D.o,hy.o]
  have W:Hi (∀o,Below wr.heap.size wr (wr.alloc o)):=λo=>(Below.refl _ _).alloc (nR_ _) _;clear Z D hy X;go_wp2_with fail;refine mq (O.o _ (R.o.below (W.o _))) λw3 ⟨D,X⟩=>?_;have Z:Hi (AB b w w3):=(a4.o.trans (AB.of (W.o _))).trans D;have b3:Hi (AV w3 nb o ns):=(G.o.below (W.o _)).beside b1 D;have a8:Hi _:=X;clear D X O c0 c1 c2 c3 c4 c5;by_cases D:d=0
  ·subst D
   have O:Hi (BM ns rd0=BM (ns.drop (i+1)) r2):=by unfold Hi;rw[J.o,aG rfl]
   have a3:Hi _:=b0.o rfl;have X:Hi _:=a8.o rfl;clear J;go_wp2_with fail
   go_round
   case rel=>exact⟨i+1,r2,oM,by go_num,a3.o,O.o,Z.o,b3.o,X.o⟩
   case measure=>simp[intOf];omega
  have X:(d==0)=false:=by rw[aF];exact D
  have O:Hi (AP ns rd0=(d,(i:Int),r)):=by unfold Hi;rw[HE.o,J.o,aC D]
  clear J;go_wp2_with fail
  go_ret2
  rw[O.o];exact⟨rfl,Z.o,λh'=>absurd h' D⟩
 have O:Hi (AP ns rd0=(0,0,r)):=by unfold Hi;rw[HE.o,hr.o,aU oM];rfl
 clear hr;go_wp2_with fail
 go_ret2
 rw[O.o];exact⟨rfl,a4.o,λ_=>R.o⟩
def AJ{α:Type}(f:α->α->Bool):List α->List α->Bool
 | [],[]=>true
 | a::s,b::t=>f a b&&AJ f s t
 | _,_=>false
def zh7{α:Type}(f:α->α->Bool):∀(l m:List α),l.length≠m.length->AJ f l m=false
 | [],[],h=>absurd rfl h
 | [],_::_,_=>rfl
 | _::_,[],_=>rfl
 | a::s,b::t,h=>by rw[AJ,zh7 f s t (λe=>h (by simp[e]))];simp
def zh4{α:Type}(f:α->α->Bool)(l m:List α)(k:Nat)(d:k<l.length)(D:k<m.length):AJ f (l.drop k) (m.drop k)=(f l[k] m[k]&&AJ f (l.drop (k+1)) (m.drop (k+1))):=by rw[aP d,aP D];rfl
def EL(a b:ByteArray):Bool:=a.toList==b.toList
def DE(a b:Int):Bool:=a==b
def EO(a b:ByteArray×Int):Bool:=a.1.toList==b.1.toList&&a.2==b.2
def wi6(w:World)(v:Value)(l:List ByteArray):Prop:=l.length<=maxLen/\∃ao cap,v=.slice ao l.length cap/\(l=[]\/∃b o,ao=some ⟨b,o,none⟩/\wc3 w b o l)
def zS7(v1 v2:Value)(D d:List ByteArray)(w:World)(h1:wi6 w v1 D)(h2:wi6 w v2 d) :
  Calls Tryz.prog 123 #[v1,v2] w λe w'=>e=.returned (.bool (AJ EL D d))/\Below w.heap.size w w':=by
 obtain⟨z1,a3,Z,rfl,W⟩:=h1;obtain⟨K,a6,a1,rfl,X⟩:=h2;unfold maxLen at z1 K;by_cases O:D.length=d.length
 case neg =>
  have G:Hi (AJ EL D d=false):=zh7 _ _ _ O;have I:((D.length:Int)==(d.length:Int))=false:=by rw[aF];omega
  clear W X;go_enter Tryz.func123,Tryz.ntmps123;go_wp2_with fail;go_ret;exact⟨za4 G.o.symm,Below.refl _ _⟩
 have R:Hi _:=W;have Y:Hi _:=X;have L:Hi _:=O;obtain⟨n,I⟩:∃n,d.length=n:=⟨_,rfl⟩;rw[O,I];rw[I]at L;have J:Hi _:=I;have hz:n<=9223372036854775807:=by rw[I]at K;exact K
 clear W X O I z1 K;go_enter Tryz.func123,Tryz.ntmps123;go_wp2_with fail;go_loopw [13] (λt wr=>∃k:Nat,k<=n/\t=nI k/\Hi (AJ EL D d=AJ EL (D.drop k) (d.drop k))/\Hi (Below w.heap.size w wr)) (λt _=>n-(intOf t).toNat)
 case atStart=>exact⟨0,oM,rfl,rfl,Below.refl _ _⟩
 obtain⟨k,hk,rfl,I,K⟩:=hrel;by_cases a5:k<n
 ·obtain⟨b1,o1,rfl,O⟩:=R.o.resolve_left (λe=>by have:=L.o;rw[e]at this;simp at this;omega)
  obtain⟨b2,o2,rfl,W⟩:=Y.o.resolve_left (λe=>by have:=J.o;rw[e]at this;simp at this;omega);have X:k<D.length:=oH L.o
  have i2:k<d.length:=oH J.o
  have c1:=(O.below K.o).c k X;have c2:=(W.below K.o).c k i2;rw[zh4 _ D d k X i2]at I;generalize D[k]=x at *;generalize d[k]=y at *;have a4:=O.lt;have a2:=W.lt;clear O W;cases O:(EL x y)
  ·have G:Hi (AJ EL D d=false):=by unfold Hi;rw[I.o,O];rfl
   clear I;unfold EL at O;go_wp2_with fail;go_quiet (fail);go_wp2_with fail;go_ret;exact⟨za4 G.o.symm,below_drewN K.o _⟩
  have G:Hi (AJ EL D d=AJ EL (D.drop (k+1)) (d.drop (k+1))):=by unfold Hi;rw[I.o,O];rfl
  clear I;unfold EL at O;go_wp2_with fail;go_quiet (fail);go_wp2_with fail;go_roundw
  case rel=>exact⟨k+1,oM,by go_num,G,below_drewN K.o _⟩
  case measure=>simp[intOf];omega
 have G:Hi (AJ EL D d=true):=by unfold Hi;rw[I.o,aU (oH L.o),aU (oH J.o)];rfl
 clear I;go_wp2_with fail;go_ret;exact⟨za4 G.o.symm,K.o⟩
structure wi7(w:World)(b o:Nat)(l:List Int):Prop where
 lt:b<w.heap.size
 c:∀(i:Nat) (h:i<l.length),w.cell? ⟨b,o+i,none⟩=some (nI l[i])
def wi7.below{l:List Int}(h:wi7 w b o l)(d:Below w.heap.size w w1):wi7 w1 b o l :=
 ⟨lL_ h.lt d.size,λi D=>(d.cell (p:=⟨b,o+i,none⟩) h.lt).trans (h.c i D)⟩
def wd8(w:World)(v:Value)(l:List Int):Prop:=l.length<=maxLen/\∃ao cap,v=.slice ao l.length cap/\(l=[]\/∃b o,ao=some ⟨b,o,none⟩/\wi7 w b o l)
def zp4(v1 v2:Value)(D d:List Int)(w:World)(h1:wd8 w v1 D)(h2:wd8 w v2 d) :
  Calls Tryz.prog 125 #[v1,v2] w λe w'=>e=.returned (.bool (AJ DE D d))/\Below w.heap.size w w':=by
 obtain⟨z1,a3,Z,rfl,W⟩:=h1;obtain⟨K,a6,a1,rfl,X⟩:=h2;unfold maxLen at z1 K;by_cases O:D.length=d.length
 case neg =>
  have G:Hi (AJ DE D d=false):=zh7 _ _ _ O;have I:((D.length:Int)==(d.length:Int))=false:=by rw[aF];omega
  clear W X;go_enter Tryz.func125,Tryz.ntmps125;go_wp2_with fail;go_ret;exact⟨za4 G.o.symm,Below.refl _ _⟩
 have R:Hi _:=W;have Y:Hi _:=X;have L:Hi _:=O;obtain⟨n,I⟩:∃n,d.length=n:=⟨_,rfl⟩;rw[O,I];rw[I]at L;have J:Hi _:=I;have hz:n<=9223372036854775807:=by rw[I]at K;exact K
 clear W X O I z1 K;go_enter Tryz.func125,Tryz.ntmps125;go_wp2_with fail;go_loopw [13] (λt wr=>∃k:Nat,k<=n/\t=nI k/\Hi (AJ DE D d=AJ DE (D.drop k) (d.drop k))/\Hi (Below w.heap.size w wr)) (λt _=>n-(intOf t).toNat)
 case atStart=>exact⟨0,oM,rfl,rfl,Below.refl _ _⟩
 obtain⟨k,hk,rfl,I,K⟩:=hrel;by_cases a5:k<n
 ·obtain⟨b1,o1,rfl,O⟩:=R.o.resolve_left (λe=>by have:=L.o;rw[e]at this;simp at this;omega)
  obtain⟨b2,o2,rfl,W⟩:=Y.o.resolve_left (λe=>by have:=J.o;rw[e]at this;simp at this;omega);have X:k<D.length:=oH L.o
  have i2:k<d.length:=oH J.o
  have c1:=(O.below K.o).c k X;have c2:=(W.below K.o).c k i2;rw[zh4 _ D d k X i2]at I;generalize D[k]=x at *;generalize d[k]=y at *;have a4:=O.lt;have a2:=W.lt;clear O W;cases O:(DE x y)
  ·have G:Hi (AJ DE D d=false):=by unfold Hi;rw[I.o,O];rfl
   clear I;unfold DE at O;go_wp2_with fail;go_quiet (fail);go_wp2_with fail;go_ret;exact⟨za4 G.o.symm,below_drewN K.o _⟩
  have G:Hi (AJ DE D d=AJ DE (D.drop (k+1)) (d.drop (k+1))):=by unfold Hi;rw[I.o,O];rfl
  clear I;unfold DE at O;go_wp2_with fail;go_quiet (fail);go_wp2_with fail;go_roundw
  case rel=>exact⟨k+1,oM,by go_num,G,below_drewN K.o _⟩
  case measure=>simp[intOf];omega
 have G:Hi (AJ DE D d=true):=by unfold Hi;rw[I.o,aU (oH L.o),aU (oH J.o)];rfl
 clear I;go_wp2_with fail;go_ret;exact⟨za4 G.o.symm,K.o⟩
def wp1(a c:ByteArray)(b d:Int)(w:World):(Op.equalIn 10000 55 (.agg #[.string a,nI b]) (.agg #[.string c,nI d])).run Tryz.prog w=.ok (a.toList==c.toList&&b==d) w:=by
 rw[show(10000:Nat)=9999+1 from rfl,run_equalIn_agg w 9999 55 _ _ (by kernel_rfl) (by kernel_rfl)];simp only[Program.fieldsOf,Tryz.underlying55];go_simp
 by_cases D:a.toList=c.toList<;>by_cases G:b=d<;>simp[D,G]
def wp2:Tryz.prog.eqGuardType Tryz.prog.depth 55=false:=by kernel_rfl
structure wj2(w:World)(b o:Nat)(l:List (ByteArray×Int)):Prop where
 lt:b<w.heap.size
 c:∀(i:Nat) (h:i<l.length),w.cell? ⟨b,o+i*2,none⟩=some (.string l[i].1)
 d:∀(i:Nat) (h:i<l.length),w.cell? ⟨b,o+i*2+1,none⟩=some (nI l[i].2)
def wj2.below{l:List (ByteArray×Int)}(h:wj2 w b o l)(D:Below w.heap.size w w1):wj2 w1 b o l :=
 ⟨lL_ h.lt D.size,λi G=>(D.cell (p:=⟨b,o+i*2,none⟩) h.lt).trans (h.c i G),λi G=>(D.cell (p:=⟨b,o+i*2+1,none⟩) h.lt).trans (h.d i G)⟩
def wi8(w:World)(v:Value)(l:List (ByteArray×Int)):Prop:=l.length<=maxLen/\∃ao cap,v=.slice ao l.length cap/\(l=[]\/∃b o,ao=some ⟨b,o,none⟩/\wj2 w b o l)
def zS8(v1 v2:Value)(G D:List (ByteArray×Int))(w:World)(h1:wi8 w v1 G)(h2:wi8 w v2 D) :
  Calls Tryz.prog 124 #[v1,v2] w λe w'=>e=.returned (.bool (AJ EO G D))/\Below w.heap.size w w':=by
 obtain⟨Z,a5,a2,rfl,W⟩:=h1;obtain⟨L,a8,a3,rfl,X⟩:=h2;unfold maxLen at Z L;by_cases O:G.length=D.length
 case neg =>
  have I:Hi (AJ EO G D=false):=zh7 _ _ _ O;have J:((G.length:Int)==(D.length:Int))=false:=by rw[aF];omega
  clear W X;go_enter Tryz.func124,Tryz.ntmps124;go_wp2_with fail;go_ret;exact⟨za4 I.o.symm,Below.refl _ _⟩
 have Y:Hi _:=W;have a1:Hi _:=X;have R:Hi _:=O;obtain⟨n,J⟩:∃n,D.length=n:=⟨_,rfl⟩;rw[O,J];rw[J]at R;have K:Hi _:=J;have hz:n<=9223372036854775807:=by rw[J]at L;exact L
 clear W X O J Z L;go_enter Tryz.func124,Tryz.ntmps124;go_wp2_with fail;go_loopw [13] (λt wr=>∃k:Nat,k<=n/\t=nI k/\Hi (AJ EO G D=AJ EO (G.drop k) (D.drop k))/\Hi (Below w.heap.size w wr)) (λt _=>n-(intOf t).toNat)
 case atStart=>exact⟨0,oM,rfl,rfl,Below.refl _ _⟩
 obtain⟨k,hk,rfl,J,L⟩:=hrel;by_cases a7:k<n
 ·obtain⟨b1,o1,rfl,O⟩:=Y.o.resolve_left (λe=>by have:=R.o;rw[e]at this;simp at this;omega)
  obtain⟨b2,o2,rfl,W⟩:=a1.o.resolve_left (λe=>by have:=K.o;rw[e]at this;simp at this;omega);have X:k<G.length:=oH R.o
  have i2:k<D.length:=oH K.o
  have c1:=(O.below L.o).c k X;have c2:=(W.below L.o).c k i2;have d1:=(O.below L.o).d k X;have d2:=(W.below L.o).d k i2;rw[zh4 _ G D k X i2]at J;generalize G[k]=x at *;generalize D[k]=y at *;have a6:=O.lt;have a4:=W.lt;clear O W;cases O:(EO x y)
  ·have I:Hi (AJ EO G D=false):=by unfold Hi;rw[J.o,O];rfl
   clear J;unfold EO at O;have W:=wp2;have Z:∀w,(Op.equalIn 10000 55 (.agg #[.string x.1,nI x.2]) (.agg #[.string y.1,nI y.2])).run Tryz.prog w=.ok false w:=λw=>by rw[wp1,O]
   go_wp2_with fail;go_quiet (fail);go_wp2_with fail;go_ret;exact⟨za4 I.o.symm,below_drewN L.o _⟩
  have I:Hi (AJ EO G D=AJ EO (G.drop (k+1)) (D.drop (k+1))):=by unfold Hi;rw[J.o,O];rfl
  clear J;unfold EO at O;have W:=wp2;have Z:∀w,(Op.equalIn 10000 55 (.agg #[.string x.1,nI x.2]) (.agg #[.string y.1,nI y.2])).run Tryz.prog w=.ok true w:=λw=>by rw[wp1,O]
  go_wp2_with fail;go_quiet (fail);go_wp2_with fail;go_roundw
  case rel=>exact⟨k+1,oM,by go_num,I,below_drewN L.o _⟩
  case measure=>simp[intOf];omega
 have I:Hi (AJ EO G D=true):=by unfold Hi;rw[J.o,aU (oH R.o),aU (oH K.o)];rfl
 clear J;go_wp2_with fail;go_ret;exact⟨za4 I.o.symm,L.o⟩
end Go.Proofs.YthoegkcpmgalbaaGreatDoor
