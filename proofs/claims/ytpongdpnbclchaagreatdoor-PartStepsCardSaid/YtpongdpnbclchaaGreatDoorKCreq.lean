import Derived.Test.YtpongdpnbclchaaGreatDoorKCrest
set_option maxHeartbeats 8000000
set_option linter.all false
namespace Go.Proofs.YtpongdpnbclchaaGreatDoor
variable{b o:Nat}{v:Bool}{w w1:World}
section
open Go.RowKit
theorem zo4(n:Nd)(h:EW n=v)(w:World):Calls Tryz.prog 144 #[DL n] w λe w'=>e=.returned (.bool v)/\Below w.heap.size w w':=by have:=zY9 n w;rwa [h]at this
theorem zm8(n:Nd)(h:DP n=v)(w:World):Calls Tryz.prog 145 #[DL n] w λe w'=>e=.returned (.bool v)/\Below w.heap.size w w':=by have:=zJ1 n w;rwa [h]at this
theorem zy8(n:Nd)(h:DC n=v)(w:World):Calls Tryz.prog 146 #[DL n] w λe w'=>e=.returned (.bool v)/\Below w.heap.size w w':=by have:=zZ0 n w;rwa [h]at this
theorem ym0(n:Nd)(h:DM n=v)(w:World):Calls Tryz.prog 147 #[DL n] w λe w'=>e=.returned (.bool v)/\Below w.heap.size w w':=by have:=zZ1 n w;rwa [h]at this
theorem yw9(b:Nat)(n:Nd)(r:Rd)(w:World)(h:BV w b r)(h3:r.sy.length<300)(hd0:0<=n.depth)(hd1:n.depth<=24)(hde:EW n=true->1<=n.depth) :
  Calls Tryz.prog 115 #[pA b 0,nI r.sy.length,DL n] w λe w'=>e=.returned (nI (CO r r.sy.length n).1)/\AD b w w'/\((CO r r.sy.length n).1=0->BV w' b (CO r r.sy.length n).2):=by
 obtain⟨nd,nk,nm,nu,no,np⟩:=n;obtain⟨d,hdd⟩:∃d:Nat,nd=d:=⟨nd.toNat,by simp only at hd0;omega⟩;subst hdd;have hd24:d<=24:=by simp only at hd1;omega
 have hd2:(d:Int)<25:=oM;clear hd0 hd1;have HN:Hi _:=h.names;have HR:Hi _:=h.rest;have HD:Hi (EW (⟨d,nk,nm,nu,no,np⟩:Nd)=true->1<=d):=λhx=>by have:=hde hx;simp only at this;omega
 have hlt:=h.names.lt;have hgb:w.heap.size≠b:=oM;clear h hde;have HB0:Hi (∀o,Below w.heap.size w (w.alloc o)):=λo=>(Below.refl _ _).alloc (nR_ _) _
 have HC0:Hi (∀o,o=Obj.cells #[nI (d:Int),nI nk,.string nm,nI nu,nI no,nI np] 78 (0,0)->NdC (w.alloc o) w.heap.size (⟨d,nk,nm,nu,no,np⟩:Nd)):=by rintro o rfl;exact⟨by simp,by simp[go_sem],by simp[go_sem],by simp[go_sem],by simp[go_sem],by simp[go_sem],by simp[go_sem]⟩
 have HP:Hi (∃s,s=CJ r.sc r.ar (⟨d,nk,nm,nu,no,np⟩:Nd)):=⟨_,rfl⟩;obtain⟨⟨sy,co,sc1,ar1⟩,hs⟩:=HP.o;have HS:Hi _:=hs.symm;clear hs HP
 have HSym:Hi (∀w',AH w' b r.sc r.ar->Calls Tryz.prog 143 #[pA b 0,DL (⟨d,nk,nm,nu,no,np⟩:Nd)] w' λe w''=>e=.returned (.tuple #[nI sy,nI co])/\CW b w' w'' sc1 ar1):=λw' h'=>by
  have:=zT4 b (⟨d,nk,nm,nu,no,np⟩:Nd) r.sc r.ar w' h'
  rwa [HS.o]at this
 by_cases hco:co=0
 case neg =>
  have hc1:(co==0)=false:=by rw[beq_eq_false_iff_ne];exact hco
  have HE:Hi (CO r r.sy.length (⟨d,nk,nm,nu,no,np⟩:Nd)=(co,r)):=by unfold Hi CO;rw[HS.o];simp[hco]
  go_enter Tryz.func115,Tryz.ntmps115;go_wp2_with fail
  go_region_with (go_at_call 143;refine mq (HSym.o _ (HN.o.below (by first | exact(HB0.o _).drew | exact HB0.o _))) λw1 hn1=>?_)
  all_goals
   go_wp2_with fail;go_ret;rw[HE.o];refine⟨rfl,?_,λh0=>absurd h0 hco⟩
   first
    | exact(CW.after HN.o (HB0.o _).drew hn1).beside
    | exact(CW.after HN.o (HB0.o _) hn1).beside
 subst hco
 have HG:Hi (CO r r.sy.length (⟨d,nk,nm,nu,no,np⟩:Nd)=if EW (⟨d,nk,nm,nu,no,np⟩:Nd)&&(DP (⟨d,nk,nm,nu,no,np⟩:Nd) != r.nu (d-1)) then (42,r) else if DC (⟨d,nk,nm,nu,no,np⟩:Nd)&&r.si.length==12 then (46,r) else (0,⟨sc1,ar1,r.sy++[sy],r.so++[if DC (⟨d,nk,nm,nu,no,np⟩:Nd) then (r.si.length:Int) else -1],if DC (⟨d,nk,nm,nu,no,np⟩:Nd) then r.si++[r.sy.length] else r.si,λx=>if x=d then DM (⟨d,nk,nm,nu,no,np⟩:Nd) else r.nu x⟩)):=by unfold Hi CO;rw[HS.o];simp only[show((d:Int)-1).toNat=d-1 from by omega,Int.toNat_natCast];simp
 go_enter Tryz.func115,Tryz.ntmps115;go_wp2_with fail
 go_region_with (go_at_call 143;refine mq (HSym.o _ (HN.o.below (by first | exact(HB0.o _).drew | exact HB0.o _))) λw1 hn1=>?_)
 have HA:Hi (CW b w w1 sc1 ar1):=by
  first
   | exact CW.after HN.o (HB0.o _).drew hn1
   | exact CW.after HN.o (HB0.o _) hn1
 have HC1:Hi (NdC w1 w.heap.size (⟨d,nk,nm,nu,no,np⟩:Nd)):=by
  first
   | exact((HC0.o _ rfl).below (Below.refl _ _).drew).beside hgb hn1.beside
   | exact(HC0.o _ rfl).beside hgb hn1.beside
 have HR1:=hid (HR.o.keep HA.o.keep);have HN1:=hid HA.o.names;have HS1:=hid HA.o.beside;clear hn1 HSym HC0 HB0 HN HR HA;obtain⟨z1,c0,c1,c2,c3,c4,c5⟩:=HC1.o;simp only at c0 c1 c2 c3 c4 c5;have lt1:=HN1.o.lt;cases hX:EW (⟨d,nk,nm,nu,no,np⟩:Nd)
 case' false =>
  have HG2:Hi (CO r r.sy.length (⟨d,nk,nm,nu,no,np⟩:Nd)=if DC (⟨d,nk,nm,nu,no,np⟩:Nd)&&r.si.length==12 then (46,r) else (0,⟨sc1,ar1,r.sy++[sy],r.so++[if DC (⟨d,nk,nm,nu,no,np⟩:Nd) then (r.si.length:Int) else -1],if DC (⟨d,nk,nm,nu,no,np⟩:Nd) then r.si++[r.sy.length] else r.si,λx=>if x=d then DM (⟨d,nk,nm,nu,no,np⟩:Nd) else r.nu x⟩)):=by unfold Hi;rw[HG.o,hX];simp
  clear HG;go_wp2_with fail;refine wp_region_held_drew (S:=λw'=>w'.cell? (aD w.heap.size 0)=some (nI d)/\w'.cell? (aD w.heap.size 1)=some (nI nk)/\w'.cell? (aD w.heap.size 2)=some (.string nm)/\w'.cell? (aD w.heap.size 3)=some (nI nu)/\w'.cell? (aD w.heap.size 4)=some (nI no)/\w'.cell? (aD w.heap.size 5)=some (nI np)) kR (by(try dsimp only);go_keep) (λhHeld=>?_);refine wpAnyH_take (i:=0) (v:=?_) rfl kR kR kR (λ_ _ _ h=>h) (Or.inl ⟨by rfl,?_⟩) (by assumption) ?_;rotate_left
  ·intro w hSw;(try dsimp only at hSw);first|(go_simp;done) | (go_simp;with_reducible rfl)
  (try simp only[pu]);refine wpAnyH_ready (rs:=[1]) kR sI ?_;refine AllReadyH.cons rfl (λK hK=>?_) AllReadyH.nil;go_simp;refine mq (zo4 (⟨d,nk,nm,nu,no,np⟩:Nd) hX _) λw3 hb3=>?_;have HC3:Hi (NdC w3 w.heap.size (⟨d,nk,nm,nu,no,np⟩:Nd)):=(HC1.o.below (Below.refl _ _).drew).below hb3;obtain⟨z3,q0,q1,q2,q3,q4,q5⟩:=HC3.o;simp only at q0 q1 q2 q3 q4 q5;have HR3:Hi (AZ w3 b r):=(HR1.o.below lt1 (Below.refl _ _).drew).below lt1 hb3;have HN3:Hi (AH w3 b sc1 ar1):=(HN1.o.below (Below.refl _ _).drew).below hb3;have HS3:=hid (HS1.o.drew.trans (AD.of hb3));have lt3:b<w3.heap.size:=lL_ lt1 hb3.size;go_wp2_with fail;refine hK.out _ _ (by(try dsimp only);go_keep) (λhHeld=>?_);clear hK K;(try simp only[pu]);refine wpAnyH_take (i:=2) (v:=?_) rfl kR kR kR (λ_ _ _ h=>h) (Or.inl ⟨by rfl,?_⟩) (by assumption) ?_;rotate_left
  ·intro w hSw;(try dsimp only at hSw);first|(go_simp;done) | (go_simp;with_reducible rfl)
  (try simp only[pu]);refine wpAnyH_take (i:=3) (v:=undef) rfl kR kR kR (λ_ _ _ h=>h) (Or.inr ⟨by rfl,rfl⟩) (by assumption) ?_;(try simp only[pu]);refine wpAnyH_take (i:=4) (v:=undef) rfl kR kR kR (λ_ _ _ h=>h) (Or.inr ⟨by rfl,rfl⟩) (by assumption) ?_;(try simp only[pu]);refine wpAnyH_take (i:=5) (v:=undef) rfl kR kR kR (λ_ _ _ h=>h) (Or.inr ⟨by rfl,rfl⟩) (by assumption) ?_;(try simp only[pu]);refine wpAnyH_take (i:=6) (v:=undef) rfl kR kR kR (λ_ _ _ h=>h) (Or.inr ⟨by rfl,rfl⟩) (by assumption) ?_;(try simp only[pu]);refine wpAnyH_take (i:=7) (v:=undef) rfl kR kR kR (λ_ _ _ h=>h) (Or.inr ⟨by rfl,rfl⟩) (by assumption) ?_;(try simp only[pu]);refine wpAnyH_take (i:=8) (v:=undef) rfl kR kR kR (λ_ _ _ h=>h) (Or.inr ⟨by rfl,rfl⟩) (by assumption) ?_;(try simp only[pu]);refine wpAnyH_take (i:=9) (v:=undef) rfl kR kR kR (λ_ _ _ h=>h) (Or.inr ⟨by rfl,rfl⟩) (by assumption) ?_;(try simp only[pu]);refine wpAnyH_take (i:=10) (v:=undef) rfl kR kR kR (λ_ _ _ h=>h) (Or.inr ⟨by rfl,rfl⟩) (by assumption) ?_;(try simp only[pu]);refine wpAnyH_take (i:=11) (v:=undef) rfl kR kR kR (λ_ _ _ h=>h) (Or.inr ⟨by rfl,rfl⟩) (by assumption) ?_;(try simp only[pu]);refine wpAnyH_take (i:=12) (v:=undef) rfl kR kR kR (λ_ _ _ h=>h) (Or.inr ⟨by rfl,rfl⟩) (by assumption) ?_;(try simp only[pu]);refine wpAnyH_take (i:=13) (v:=undef) rfl kR kR kR (λ_ _ _ h=>h) (Or.inr ⟨by rfl,rfl⟩) (by assumption) ?_;(try simp only[pu]);refine wpAnyH_take (i:=14) (v:=?_) rfl kR kR kR (λ_ _ _ h=>h) (Or.inl ⟨by rfl,?_⟩) (by assumption) ?_;rotate_left
  ·intro w hSw;(try dsimp only at hSw);first|(go_simp;done) | (go_simp;with_reducible rfl)
  (try simp only[pu]);refine wpAnyH_take (i:=15) (v:=?_) rfl kR kR kR (λ_ _ _ h=>h) (Or.inl ⟨by rfl,?_⟩) (by assumption) ?_;rotate_left
  ·intro w hSw;(try dsimp only at hSw);first|(go_simp;done) | (go_simp;with_reducible rfl)
  (try simp only[pu]);refine wpAnyH_done kR ?_ _;clear c0 c1 c2 c3 c4 c5
 case' true =>
  have hp:1<=d:=HD.o hX;obtain⟨y,hy⟩:∃y,d-1=y:=⟨_,rfl⟩;have hw1:IntKind.i64.wrap ((d:Int)-1)=(y:Int):=by rw[Go.IntWalk.i64_in _ (by omega)];omega
  have hq2:(y:Int)<25:=oM;have hq3:y<25:=oM;rw[hy]at HG;clear hy;have cn:=HR1.o.nu y hq3
  cases hM:DP (⟨d,nk,nm,nu,no,np⟩:Nd)<;>cases hV:r.nu y<;>rw[hV]at cn
  case' false.false =>
   have HG2:Hi (CO r r.sy.length (⟨d,nk,nm,nu,no,np⟩:Nd)=if DC (⟨d,nk,nm,nu,no,np⟩:Nd)&&r.si.length==12 then (46,r) else (0,⟨sc1,ar1,r.sy++[sy],r.so++[if DC (⟨d,nk,nm,nu,no,np⟩:Nd) then (r.si.length:Int) else -1],if DC (⟨d,nk,nm,nu,no,np⟩:Nd) then r.si++[r.sy.length] else r.si,λx=>if x=d then DM (⟨d,nk,nm,nu,no,np⟩:Nd) else r.nu x⟩)):=by unfold Hi;rw[HG.o,hX,hM,hV];simp
   clear HG;go_wp2_with fail
   go_region_held3 (λw'=>w'.cell? (aD w.heap.size 0)=some (nI d)/\w'.cell? (aD w.heap.size 1)=some (nI nk)/\w'.cell? (aD w.heap.size 2)=some (.string nm)/\w'.cell? (aD w.heap.size 3)=some (nI nu)/\w'.cell? (aD w.heap.size 4)=some (nI no)/\w'.cell? (aD w.heap.size 5)=some (nI np)/\w'.cell? ⟨b,629+y,none⟩=some (.bool false)) (go_keep)
    (first
    |(go_at_call 144;refine mq (zo4 (⟨d,nk,nm,nu,no,np⟩:Nd) hX _) λw2 hb2=>?_;have HC2:Hi (NdC w2 w.heap.size (⟨d,nk,nm,nu,no,np⟩:Nd)):=(HC1.o.below (Below.refl _ _).drew).below hb2;obtain⟨z2,p0,p1,p2,p3,p4,p5⟩:=HC2.o;simp only at p0 p1 p2 p3 p4 p5;have HR2:Hi (AZ w2 b r):=(HR1.o.below lt1 (Below.refl _ _).drew).below lt1 hb2;have HN2:Hi (AH w2 b sc1 ar1):=(HN1.o.below (Below.refl _ _).drew).below hb2;have HS2:=hid (HS1.o.drew.trans (AD.of hb2));have cn2:=HR2.o.nu y hq3;rw[hV]at cn2;have lt2:b<w2.heap.size:=Nat.lt_of_lt_of_le lt1 hb2.size)
    |(go_at_call 145;refine mq (zm8 (⟨d,nk,nm,nu,no,np⟩:Nd) hM _) λw3 hb3=>?_;have HC3:=hid (HC2.o.below hb3);obtain⟨z3,q0,q1,q2,q3,q4,q5⟩:=HC3.o;simp only at q0 q1 q2 q3 q4 q5;have HR3:=hid (HR2.o.below lt2 hb3);have HN3:=hid (HN2.o.below hb3);have HS3:=hid (HS2.o.trans (AD.of hb3));have cn3:=HR3.o.nu y hq3;rw[hV]at cn3;have lt3:b<w3.heap.size:=Nat.lt_of_lt_of_le lt2 hb3.size))
   clear c0 c1 c2 c3 c4 c5 p0 p1 p2 p3 p4 p5 cn cn2 cn3
  case false.true =>
   have HG2:Hi (CO r r.sy.length (⟨d,nk,nm,nu,no,np⟩:Nd)=(42,r)):=by unfold Hi;rw[HG.o,hX,hM,hV];simp
   clear HG;go_wp2_with fail
   go_region_held3 (λw'=>w'.cell? (aD w.heap.size 0)=some (nI d)/\w'.cell? (aD w.heap.size 1)=some (nI nk)/\w'.cell? (aD w.heap.size 2)=some (.string nm)/\w'.cell? (aD w.heap.size 3)=some (nI nu)/\w'.cell? (aD w.heap.size 4)=some (nI no)/\w'.cell? (aD w.heap.size 5)=some (nI np)/\w'.cell? ⟨b,629+y,none⟩=some (.bool true)) (go_keep)
    (first
    |(go_at_call 144;refine mq (zo4 (⟨d,nk,nm,nu,no,np⟩:Nd) hX _) λw2 hb2=>?_;have HC2:Hi (NdC w2 w.heap.size (⟨d,nk,nm,nu,no,np⟩:Nd)):=(HC1.o.below (Below.refl _ _).drew).below hb2;obtain⟨z2,p0,p1,p2,p3,p4,p5⟩:=HC2.o;simp only at p0 p1 p2 p3 p4 p5;have HR2:Hi (AZ w2 b r):=(HR1.o.below lt1 (Below.refl _ _).drew).below lt1 hb2;have HN2:Hi (AH w2 b sc1 ar1):=(HN1.o.below (Below.refl _ _).drew).below hb2;have HS2:=hid (HS1.o.drew.trans (AD.of hb2));have cn2:=HR2.o.nu y hq3;rw[hV]at cn2;have lt2:b<w2.heap.size:=Nat.lt_of_lt_of_le lt1 hb2.size)
    |(go_at_call 145;refine mq (zm8 (⟨d,nk,nm,nu,no,np⟩:Nd) hM _) λw3 hb3=>?_;have HC3:=hid (HC2.o.below hb3);obtain⟨z3,q0,q1,q2,q3,q4,q5⟩:=HC3.o;simp only at q0 q1 q2 q3 q4 q5;have HR3:=hid (HR2.o.below lt2 hb3);have HN3:=hid (HN2.o.below hb3);have HS3:=hid (HS2.o.trans (AD.of hb3));have cn3:=HR3.o.nu y hq3;rw[hV]at cn3;have lt3:b<w3.heap.size:=Nat.lt_of_lt_of_le lt2 hb3.size))
   clear c0 c1 c2 c3 c4 c5 p0 p1 p2 p3 p4 p5 cn cn2 cn3;go_wp2_with fail;go_ret;rw[HG2.o];exact⟨rfl,HS3.o,λh0=>absurd h0 sI⟩
  case true.false =>
   have HG2:Hi (CO r r.sy.length (⟨d,nk,nm,nu,no,np⟩:Nd)=(42,r)):=by unfold Hi;rw[HG.o,hX,hM,hV];simp
   clear HG;go_wp2_with fail
   go_region_held3 (λw'=>w'.cell? (aD w.heap.size 0)=some (nI d)/\w'.cell? (aD w.heap.size 1)=some (nI nk)/\w'.cell? (aD w.heap.size 2)=some (.string nm)/\w'.cell? (aD w.heap.size 3)=some (nI nu)/\w'.cell? (aD w.heap.size 4)=some (nI no)/\w'.cell? (aD w.heap.size 5)=some (nI np)/\w'.cell? ⟨b,629+y,none⟩=some (.bool false)) (go_keep)
    (first
    |(go_at_call 144;refine mq (zo4 (⟨d,nk,nm,nu,no,np⟩:Nd) hX _) λw2 hb2=>?_;have HC2:Hi (NdC w2 w.heap.size (⟨d,nk,nm,nu,no,np⟩:Nd)):=(HC1.o.below (Below.refl _ _).drew).below hb2;obtain⟨z2,p0,p1,p2,p3,p4,p5⟩:=HC2.o;simp only at p0 p1 p2 p3 p4 p5;have HR2:Hi (AZ w2 b r):=(HR1.o.below lt1 (Below.refl _ _).drew).below lt1 hb2;have HN2:Hi (AH w2 b sc1 ar1):=(HN1.o.below (Below.refl _ _).drew).below hb2;have HS2:=hid (HS1.o.drew.trans (AD.of hb2));have cn2:=HR2.o.nu y hq3;rw[hV]at cn2;have lt2:b<w2.heap.size:=Nat.lt_of_lt_of_le lt1 hb2.size)
    |(go_at_call 145;refine mq (zm8 (⟨d,nk,nm,nu,no,np⟩:Nd) hM _) λw3 hb3=>?_;have HC3:=hid (HC2.o.below hb3);obtain⟨z3,q0,q1,q2,q3,q4,q5⟩:=HC3.o;simp only at q0 q1 q2 q3 q4 q5;have HR3:=hid (HR2.o.below lt2 hb3);have HN3:=hid (HN2.o.below hb3);have HS3:=hid (HS2.o.trans (AD.of hb3));have cn3:=HR3.o.nu y hq3;rw[hV]at cn3;have lt3:b<w3.heap.size:=Nat.lt_of_lt_of_le lt2 hb3.size))
   clear c0 c1 c2 c3 c4 c5 p0 p1 p2 p3 p4 p5 cn cn2 cn3;go_wp2_with fail;go_ret;rw[HG2.o];exact⟨rfl,HS3.o,λh0=>absurd h0 sI⟩
  case' true.true =>
   have HG2:Hi (CO r r.sy.length (⟨d,nk,nm,nu,no,np⟩:Nd)=if DC (⟨d,nk,nm,nu,no,np⟩:Nd)&&r.si.length==12 then (46,r) else (0,⟨sc1,ar1,r.sy++[sy],r.so++[if DC (⟨d,nk,nm,nu,no,np⟩:Nd) then (r.si.length:Int) else -1],if DC (⟨d,nk,nm,nu,no,np⟩:Nd) then r.si++[r.sy.length] else r.si,λx=>if x=d then DM (⟨d,nk,nm,nu,no,np⟩:Nd) else r.nu x⟩)):=by unfold Hi;rw[HG.o,hX,hM,hV];simp
   clear HG;go_wp2_with fail
   go_region_held3 (λw'=>w'.cell? (aD w.heap.size 0)=some (nI d)/\w'.cell? (aD w.heap.size 1)=some (nI nk)/\w'.cell? (aD w.heap.size 2)=some (.string nm)/\w'.cell? (aD w.heap.size 3)=some (nI nu)/\w'.cell? (aD w.heap.size 4)=some (nI no)/\w'.cell? (aD w.heap.size 5)=some (nI np)/\w'.cell? ⟨b,629+y,none⟩=some (.bool true)) (go_keep)
    (first
    |(go_at_call 144;refine mq (zo4 (⟨d,nk,nm,nu,no,np⟩:Nd) hX _) λw2 hb2=>?_;have HC2:Hi (NdC w2 w.heap.size (⟨d,nk,nm,nu,no,np⟩:Nd)):=(HC1.o.below (Below.refl _ _).drew).below hb2;obtain⟨z2,p0,p1,p2,p3,p4,p5⟩:=HC2.o;simp only at p0 p1 p2 p3 p4 p5;have HR2:Hi (AZ w2 b r):=(HR1.o.below lt1 (Below.refl _ _).drew).below lt1 hb2;have HN2:Hi (AH w2 b sc1 ar1):=(HN1.o.below (Below.refl _ _).drew).below hb2;have HS2:=hid (HS1.o.drew.trans (AD.of hb2));have cn2:=HR2.o.nu y hq3;rw[hV]at cn2;have lt2:b<w2.heap.size:=Nat.lt_of_lt_of_le lt1 hb2.size)
    |(go_at_call 145;refine mq (zm8 (⟨d,nk,nm,nu,no,np⟩:Nd) hM _) λw3 hb3=>?_;have HC3:=hid (HC2.o.below hb3);obtain⟨z3,q0,q1,q2,q3,q4,q5⟩:=HC3.o;simp only at q0 q1 q2 q3 q4 q5;have HR3:=hid (HR2.o.below lt2 hb3);have HN3:=hid (HN2.o.below hb3);have HS3:=hid (HS2.o.trans (AD.of hb3));have cn3:=HR3.o.nu y hq3;rw[hV]at cn3;have lt3:b<w3.heap.size:=Nat.lt_of_lt_of_le lt2 hb3.size))
   clear c0 c1 c2 c3 c4 c5 p0 p1 p2 p3 p4 p5 cn cn2 cn3
 all_goals
  cases hT:DC (⟨d,nk,nm,nu,no,np⟩:Nd)
  case' false =>
   have HG3:Hi (CO r r.sy.length (⟨d,nk,nm,nu,no,np⟩:Nd)=(0,⟨sc1,ar1,r.sy++[sy],r.so++[-1],r.si,λx=>if x=d then DM (⟨d,nk,nm,nu,no,np⟩:Nd) else r.nu x⟩)):=by unfold Hi;rw[HG2.o,hT];simp
   clear HG2
  case' true =>
   by_cases h12:r.si.length=12
   case pos =>
    have HG3:Hi (CO r r.sy.length (⟨d,nk,nm,nu,no,np⟩:Nd)=(46,r)):=by unfold Hi;rw[HG2.o,hT];simp[h12]
    clear HG2;go_wp2_with fail;refine mq (zy8 (⟨d,nk,nm,nu,no,np⟩:Nd) hT _) λw4 hb4=>?_;have HC4:=hid (HC3.o.below hb4);have HR4:=hid (HR3.o.below lt3 hb4);have HN4:=hid (HN3.o.below hb4);have HS4:=hid (HS3.o.trans (AD.of hb4));have lt4:b<w4.heap.size:=lL_ lt3 hb4.size;clear q0 q1 q2 q3 q4 q5;obtain⟨z4,q0,q1,q2,q3,q4,q5⟩:=HC4.o;simp only at q0 q1 q2 q3 q4 q5;have f4:=HR4.o.found;rw[h12]at f4;go_wp2_with fail;go_ret;rw[HG3.o];exact⟨rfl,HS4.o,λh0=>absurd h0 sI⟩
   case' neg =>
    have hfl:r.si.length<12:=by have:=HR3.o.sites;omega
    have hf1:(r.si.length:Int)<12:=oM;have hf2:((r.si.length:Int)==12)=false:=by rw[beq_eq_false_iff_ne];omega
    have HG3:Hi (CO r r.sy.length (⟨d,nk,nm,nu,no,np⟩:Nd)=(0,⟨sc1,ar1,r.sy++[sy],r.so++[(r.si.length:Int)],r.si++[r.sy.length],λx=>if x=d then DM (⟨d,nk,nm,nu,no,np⟩:Nd) else r.nu x⟩)):=by unfold Hi;rw[HG2.o,hT];simp[h12]
    clear HG2 h12
  all_goals
   go_wp2_with fail;refine mq (zy8 (⟨d,nk,nm,nu,no,np⟩:Nd) hT _) λw4 hb4=>?_;have HC4:=hid (HC3.o.below hb4);have HR4:=hid (HR3.o.below lt3 hb4);have HN4:=hid (HN3.o.below hb4);have HS4:=hid (HS3.o.trans (AD.of hb4));have lt4:b<w4.heap.size:=lL_ lt3 hb4.size;clear q0 q1 q2 q3 q4 q5;obtain⟨z4,q0,q1,q2,q3,q4,q5⟩:=HC4.o;simp only at q0 q1 q2 q3 q4 q5;have f4:=HR4.o.found;go_wp2_with fail;obtain⟨wv,hwv⟩:∃v,DM (⟨d,nk,nm,nu,no,np⟩:Nd)=v:=⟨_,rfl⟩;have HWV:Hi _:=hwv;have hu4:=HR4.o.nu d oM;have wf4:=HN4.o.warm;have hg1:¬w.heap.size=b:=hgb;have hg2:¬b=w.heap.size:=λe=>hgb e.symm
   go_region_held3 (λw'=>w'.cell? (aD w.heap.size 0)=some (nI d)/\w'.cell? (aD w.heap.size 1)=some (nI nk)/\w'.cell? (aD w.heap.size 2)=some (.string nm)/\w'.cell? (aD w.heap.size 3)=some (nI nu)/\w'.cell? (aD w.heap.size 4)=some (nI no)/\w'.cell? (aD w.heap.size 5)=some (nI np)) (go_keep)
    (first
    |(go_at_call 147;refine mq (ym0 (⟨d,nk,nm,nu,no,np⟩:Nd) HWV.o _) λw5 hb5=>?_;have HC5:Hi (NdC w5 w.heap.size (⟨d,nk,nm,nu,no,np⟩:Nd)):=(HC4.o.below (Below.refl _ _).drew).below hb5;obtain⟨z5,s0,s1,s2,s3,s4,s5⟩:=HC5.o;simp only at s0 s1 s2 s3 s4 s5;have HR5:Hi (AZ w5 b r):=(HR4.o.below lt4 (Below.refl _ _).drew).below lt4 hb5;have HN5:Hi (AH w5 b sc1 ar1):=(HN4.o.below (Below.refl _ _).drew).below hb5;have HS5:=hid (HS4.o.drew.trans (AD.of hb5));have hu5:=HR5.o.nu d oM;have wf5:=HN5.o.warm)
    | fail)
   have HR6:Hi (AZ (w5.setCell ⟨b,629+d,none⟩ (.bool wv)) b { r with nu:=λx=>if x=d then wv else r.nu x }):=HR5.o.nu_set oM wv;have HN6:Hi (AH (w5.setCell ⟨b,629+d,none⟩ (.bool wv)) b sc1 ar1):=HN5.o.hi oM hu5 _;have HJ6:Hi (AD b w (w5.setCell ⟨b,629+d,none⟩ (.bool wv))):=HS5.o.set _ _;have HC6:Hi (NdC (w5.setCell ⟨b,629+d,none⟩ (.bool wv)) w.heap.size (⟨d,nk,nm,nu,no,np⟩:Nd)):=HC5.o.beside hgb (AD.set (AD.of (Below.refl _ _)) _ _);clear q0 q1 q2 q3 q4 q5 s0 s1 s2 s3 s4 s5 hu4 hu5 wf4 wf5 f4 hwv z5;obtain⟨w6,hw6⟩:=qq (w5.setCell ⟨b,629+d,none⟩ (.bool wv));rw[<-hw6]at HR6 HN6 HJ6 HC6;rw[<-hw6]
   try clear hHeld
   clear hw6;obtain⟨v16,m16⟩:=HR6.o.room (16+r.sy.length) oM oM;obtain⟨v316,m316⟩:=HR6.o.room (316+r.sy.length) oM oM;have wf6:=HN6.o.warm;have hl3:(r.sy.length:Int)<300:=oM;have hx1:¬316+r.sy.length=16+r.sy.length:=oM;obtain⟨z6,s0,s1,s2,s3,s4,s5⟩:=HC6.o;simp only at s0 s1 s2 s3 s4 s5;go_wp2_with fail;have HR7:Hi (AZ ((w6.setCell ⟨b,16+r.sy.length,none⟩ (nI sy)).setCell ⟨b,316+r.sy.length,none⟩ (nI (-1))) b { r with sy:=r.sy++[sy],so:=r.so++[-1],nu:=λx=>if x=d then wv else r.nu x }):=HR6.o.push h3 sy (-1)
   have HN7:Hi (AH ((w6.setCell ⟨b,16+r.sy.length,none⟩ (nI sy)).setCell ⟨b,316+r.sy.length,none⟩ (nI (-1))) b sc1 ar1):=by obtain⟨v1,r1⟩:=zg8 (v:=nI sy) m16 HR6.o.room (316+r.sy.length) oM oM;exact(HN6.o.hi oM m16 _).hi oM r1 _
   have HJ7:Hi (AD b w ((w6.setCell ⟨b,16+r.sy.length,none⟩ (nI sy)).setCell ⟨b,316+r.sy.length,none⟩ (nI (-1)))):=(HJ6.o.set _ _).set _ _;obtain⟨w7,hw7⟩:=qq ((w6.setCell ⟨b,16+r.sy.length,none⟩ (nI sy)).setCell ⟨b,316+r.sy.length,none⟩ (nI (-1)));rw[<-hw7]at HR7 HN7 HJ7;rw[<-hw7];clear hw7 m16 m316 wf6 s0 s1 s2 s3 s4 s5 z6;refine mq (zy8 (⟨d,nk,nm,nu,no,np⟩:Nd) hT _) λw8 hb8=>?_;have HR8:Hi _:=HR7.o.below HN7.o.lt hb8;have HN8:=hid (HN7.o.below hb8);have HS8:=hid (HJ7.o.trans (AD.of hb8))
  ·have f8:=HR8.o.found
   obtain⟨v1,m1⟩:=HR8.o.room (316+r.sy.length) oM oM;obtain⟨v2,m2⟩:=HR8.o.room (616+r.si.length) oM oM;have hz1:¬628=316+r.sy.length:=oM;have hz2:¬616+r.si.length=316+r.sy.length:=oM;have hz3:¬628=616+r.si.length:=oM;have wf8:=HN8.o.warm;have HL:=hid HR3.o.len;have HW:Hi _:=HR8.o.site rfl r.sy.length hfl;have HW2:Hi _:=HR8.o.site_names HN8.o rfl r.sy.length hfl;unfold Hi at HW HW2;simp only[HL.o]at HW HW2;have HV:Hi _:=HW;have HV2:Hi _:=HW2;clear HW HW2;go_wp2_with fail
   go_region
   go_wp2_with fail
   go_region
   go_wp2_with fail;go_ret;rw[HG3.o];exact⟨rfl,AD.drew (AD.drew (((HS8.o.set _ _).set _ _).set _ _)),λ_=>⟨HV2.o.below ((Below.refl _ _).drew.drew),by rw[HWV.o];exact((HV.o.other _ _).below (by simpa using HN8.o.lt) ((Below.refl _ _).drew.drew))⟩⟩
  go_wp2_with fail;go_ret;rw[HG3.o];exact⟨rfl,HS8.o,λ_=>⟨HN8.o,by rw[HWV.o];exact HR8.o.other _ _⟩⟩
end
section
open Go.RowKit
def rd0:Rd:=⟨[],[],[],[],[],λ_=>false⟩
def BL:List Nd->Rd->Int×Int×Rd
 | [],r=>(0,0,r)
 | n::t,r=>if (CO r r.sy.length n).1=0 then BL t (CO r r.sy.length n).2 else ((CO r r.sy.length n).1,r.sy.length,r)
def AR(ns:List Nd)(r:Rd):Int×Int×Rd:=if (BD ns).1=0 then BL ns r else ((BD ns).1,(BD ns).2,r)
theorem zy9(ns:List Nd)(i:Nat)(r:Rd)(h:i<ns.length):BL (ns.drop i) r=if (CO r r.sy.length ns[i]).1=0 then BL (ns.drop (i+1)) (CO r r.sy.length ns[i]).2 else ((CO r r.sy.length ns[i]).1,r.sy.length,r):=by rw[List.drop_eq_getElem_cons h];rfl
theorem yv1(r:Rd)(i:Nat)(n:Nd)(h:(CO r i n).1=0):(CO r i n).2.sy.length=r.sy.length+1:=by
 revert h
 unfold CO;simp only
 split
 ·intro h;simp_all
 split
 ·intro h;simp_all
 split
 ·intro h;simp_all
 intro _;simp
theorem zD5:∀(ns:List Nd) (i:Nat) (st:List AW) (g:Bool),(EH ns i st g).1=0->∀n∈ns,1<=n.depth/\n.depth<=24
 | [],_,_,_,_,n,hn=>by simp at hn
 | m::ms,i,st,g,h,n,hn=>by
  rw[EH]at h
  split at h
  ·simp at h
  split at h
  ·simp at h
  rename_i h1 h2
  split at h
  ·simp at h
  rename_i h3
  rcases List.mem_cons.1 hn with rfl | hn
  ·have:DN st g n.depth n.kind.toNat=true:=by simpa using h2
   unfold DN at this;simp only[Bool.and_eq_true,decide_eq_true_eq]at this;omega
  exact zD5 ms _ _ _ h n hn
theorem zn9(ns:List Nd)(h:(BD ns).1=0):ns.length<=300/\∀n∈ns,1<=n.depth/\n.depth<=24:=by
 unfold BD at h
 split at h
 ·simp at h
 exact⟨by omega,zD5 ns 0 [] false h⟩
theorem AV.beside{nb:Nat}{ns:List Nd}(h:AV w nb o ns)(hn:nb≠b)(hb:AD b w w1):AV w1 nb o ns:=by have hc:∀o,w1.cell? (aD nb o)=w.cell? (aD nb o):=λo=>hb.cell hn h.lt;exact⟨Nat.lt_of_lt_of_le h.lt hb.low.size,λi hi=>by rw[hc];exact h.c0 i hi,λi hi=>by rw[hc];exact h.c1 i hi,λi hi=>by rw[hc];exact h.c2 i hi,λi hi=>by rw[hc];exact h.c3 i hi,λi hi=>by rw[hc];exact h.c4 i hi,λi hi=>by rw[hc];exact h.c5 i hi⟩
theorem BV.below{r:Rd}(h:BV w b r)(hb:Below w.heap.size w w1):BV w1 b r:=⟨h.names.below hb,h.rest.below h.names.lt hb⟩
theorem ym1(b nb o cap:Nat)(ns:List Nd)(w:World)(hok:∀n∈ns,n.Ok)(hR:BF w)(hN:AV w nb o ns)(hlen:ns.length<=cap)(hcap:cap<=maxLen)(hnb:nb≠b)(h:BV w b rd0) :
  Calls Tryz.prog 87 #[pA b 0,.slice (sA nb o) ns.length cap] w λe w'=>e=.returned (.tuple #[nI (AR ns rd0).1,nI (AR ns rd0).2.1])/\AD b w w'/\((AR ns rd0).1=0->BV w' b (AR ns rd0).2.2):=by
 have HSH:Hi (∀_:Unit,Calls Tryz.prog 114 #[.slice (sA nb o) ns.length cap] w λe w'=>e=.returned (.tuple #[nI (BD ns).1,nI (BD ns).2])/\Below w.heap.size w w'):=λ_=>ya6 nb o cap ns w hok hR hN hlen hcap;have HN:Hi _:=hN;have HD:Hi _:=h;have hl:ns.length<=maxLen:=oM;unfold maxLen at hl;have hln:=hN.lt;have hlb:=h.names.lt;clear hR hN h;by_cases h0:(BD ns).1=0
 case neg =>
  have hc1:((BD ns).1==0)=false:=by rw[beq_eq_false_iff_ne];exact h0
  have HE:Hi (AR ns rd0=((BD ns).1,(BD ns).2,rd0)):=by unfold Hi AR;rw[if_neg h0]
  go_enter Tryz.func87,Tryz.ntmps87;go_wp2_with fail;refine mq (HSH.o ()) λw1 hb1=>?_;go_wp2_with fail
  go_ret2
  rw[HE.o];exact⟨rfl,AD.of hb1,λh'=>absurd h' h0⟩
 have hc1:((BD ns).1==0)=true:=by rw[h0];rfl
 obtain⟨h300,hdep⟩:=zn9 ns h0;have HDE:Hi _:=hdep;have HE:Hi (AR ns rd0=BL ns rd0):=by unfold Hi AR;rw[if_pos h0]
 have h300':(ns.length:Int)<=300:=oM;clear hdep;generalize hsh:BD ns=sh at *;obtain⟨sh1,sh2⟩:=sh;simp only at h0;subst h0;clear hsh hc1;go_enter Tryz.func87,Tryz.ntmps87;go_wp2_with fail;refine mq (HSH.o ()) λw1 hb1=>?_;have HN1:Hi (AV w1 nb o ns):=HN.o.below hb1;have HD1:Hi (BV w1 b rd0):=HD.o.below hb1;have HS1:Hi (AD b w w1):=AD.of hb1;clear HSH HN HD;go_wp2_with fail;go_loopw [22] (λt wr=>∃(i:Nat) (r:Rd),i<=ns.length/\t=nI i/\Hi (r.sy.length=i)/\Hi (BL ns rd0=BL (ns.drop i) r)/\Hi (AD b w wr)/\Hi (AV wr nb o ns)/\Hi (BV wr b r)) (λt _=>ns.length-(intOf t).toNat)
 case atStart=>exact⟨0,rd0,by omega,rfl,rfl,rfl,HS1.o,HN1.o,HD1.o⟩
 obtain⟨i,r,hi,rfl,hy,hr,HS2,HN2,HD2⟩:=hrel;by_cases hlt:i<ns.length
 ·have c0:=HN2.o.c0 i hlt
  have c1:=HN2.o.c1 i hlt;have c2:=HN2.o.c2 i hlt;have c3:=HN2.o.c3 i hlt;have c4:=HN2.o.c4 i hlt;have c5:=HN2.o.c5 i hlt;have hdi:=HDE.o ns[i] (List.getElem_mem _);have HST:Hi _:=hr.o.trans (zy9 ns i r hlt);clear hr;generalize ns[i]=nd at *;have hlw:=HN2.o.lt;have hlbw:=HD2.o.names.lt;have hneb:¬nb=wr.heap.size:=oM;obtain⟨pc,hpc⟩:=qq (CO r r.sy.length nd);obtain⟨code,r2⟩:=pc;have HPC:Hi _:=hpc.symm;clear hpc
  have HPUT:Hi (∀w',BV w' b r->Calls Tryz.prog 115 #[pA b 0,nI i,DL nd] w' λe w''=>e=.returned (nI code)/\AD b w' w''/\(code=0->BV w'' b r2)):=λw' h'=>by have:=yw9 b nd r w' h' (by have:=hy.o;omega) oM hdi.2 (λ_=>hdi.1);rw[HPC.o,hy.o]at this;exact this
  have HSY:Hi (code=0->r2.sy.length=i+1):=λhc=>by have:=yv1 r r.sy.length nd (by rw[HPC.o];exact hc);rw[HPC.o,hy.o]at this;exact this
  have HST2:Hi (BL ns rd0=if code=0 then BL (ns.drop (i+1)) r2 else (code,(i:Int),r)):=by unfold Hi;rw[HST.o,HPC.o,hy.o]
  have HB0:Hi (∀o,Below wr.heap.size wr (wr.alloc o)):=λo=>(Below.refl _ _).alloc (nR_ _) _;clear HST HPC hy hdi;go_wp2_with fail;refine mq (HPUT.o _ (HD2.o.below (HB0.o _))) λw3 ⟨hs3,hr3⟩=>?_;have HS3:Hi (AD b w w3):=(HS2.o.trans (AD.of (HB0.o _))).trans hs3;have HN3:Hi (AV w3 nb o ns):=(HN2.o.below (HB0.o _)).beside hnb hs3;have HR3:Hi _:=hr3;clear hs3 hr3 HPUT c0 c1 c2 c3 c4 c5;by_cases hcode:code=0
  ·subst hcode
   have HL:Hi (BL ns rd0=BL (ns.drop (i+1)) r2):=by unfold Hi;rw[HST2.o,if_pos rfl]
   have HSY0:Hi _:=HSY.o rfl;have HR30:Hi _:=HR3.o rfl;clear HST2;go_wp2_with fail
   go_round
   case rel=>exact⟨i+1,r2,by omega,by go_num,HSY0.o,HL.o,HS3.o,HN3.o,HR30.o⟩
   case measure=>simp[intOf];omega
  have hcb:(code==0)=false:=by rw[beq_eq_false_iff_ne];exact hcode
  have HL:Hi (AR ns rd0=(code,(i:Int),r)):=by unfold Hi;rw[HE.o,HST2.o,if_neg hcode]
  clear HST2;go_wp2_with fail
  go_ret2
  rw[HL.o];exact⟨rfl,HS3.o,λh'=>absurd h' hcode⟩
 have HL:Hi (AR ns rd0=(0,0,r)):=by unfold Hi;rw[HE.o,hr.o,List.drop_of_length_le (by omega)];rfl
 clear hr;go_wp2_with fail
 go_ret2
 rw[HL.o];exact⟨rfl,HS2.o,λ_=>HD2.o⟩
end
section
open Go.RowKit
def AL{α:Type}(f:α->α->Bool):List α->List α->Bool
 | [],[]=>true
 | a::s,b::t=>f a b&&AL f s t
 | _,_=>false
theorem zh7{α:Type}(f:α->α->Bool):∀(l m:List α),l.length≠m.length->AL f l m=false
 | [],[],h=>absurd rfl h
 | [],_::_,_=>rfl
 | _::_,[],_=>rfl
 | a::s,b::t,h=>by rw[AL,zh7 f s t (λe=>h (by simp[e]))];simp
theorem zh4{α:Type}(f:α->α->Bool)(l m:List α)(k:Nat)(h1:k<l.length)(h2:k<m.length):AL f (l.drop k) (m.drop k)=(f l[k] m[k]&&AL f (l.drop (k+1)) (m.drop (k+1))):=by rw[List.drop_eq_getElem_cons h1,List.drop_eq_getElem_cons h2];rfl
def EF(a b:ByteArray):Bool:=a.toList==b.toList
def DB(a b:Int):Bool:=a==b
def EM(a b:ByteArray×Int):Bool:=a.1.toList==b.1.toList&&a.2==b.2
def wi5(w:World)(v:Value)(l:List ByteArray):Prop:=l.length<=maxLen/\∃ao cap,v=.slice ao l.length cap/\(l=[]\/∃b o,ao=some ⟨b,o,none⟩/\wc0 w b o l)
theorem zS7(v1 v2:Value)(l1 l2:List ByteArray)(w:World)(h1:wi5 w v1 l1)(h2:wi5 w v2 l2) :
  Calls Tryz.prog 116 #[v1,v2] w λe w'=>e=.returned (.bool (AL EF l1 l2))/\Below w.heap.size w w':=by
 obtain⟨z1,ao1,cap1,rfl,k1⟩:=h1;obtain⟨z2,ao2,cap2,rfl,k2⟩:=h2;unfold maxLen at z1 z2;by_cases hl:l1.length=l2.length
 case neg =>
  have HE:Hi (AL EF l1 l2=false):=zh7 _ _ _ hl;have hl2:((l1.length:Int)==(l2.length:Int))=false:=by rw[beq_eq_false_iff_ne];omega
  clear k1 k2;go_enter Tryz.func116,Tryz.ntmps116;go_wp2_with fail;go_ret;exact⟨za4 HE.o.symm,Below.refl _ _⟩
 have HK1:Hi _:=k1;have HK2:Hi _:=k2;have HL:Hi _:=hl;obtain⟨n,hn⟩:∃n,l2.length=n:=⟨_,rfl⟩;rw[hl,hn];rw[hn]at HL;have HL2:Hi _:=hn;have hz:n<=9223372036854775807:=by rw[hn]at z2;exact z2
 clear k1 k2 hl hn z1 z2;go_enter Tryz.func116,Tryz.ntmps116;go_wp2_with fail;go_loopw [13] (λt wr=>∃k:Nat,k<=n/\t=nI k/\Hi (AL EF l1 l2=AL EF (l1.drop k) (l2.drop k))/\Hi (Below w.heap.size w wr)) (λt _=>n-(intOf t).toNat)
 case atStart=>exact⟨0,by omega,rfl,rfl,Below.refl _ _⟩
 obtain⟨k,hk,rfl,hr,HB⟩:=hrel;by_cases hlt:k<n
 ·obtain⟨b1,o1,rfl,s1⟩:=HK1.o.resolve_left (λe=>by have:=HL.o;rw[e]at this;simp at this;omega)
  obtain⟨b2,o2,rfl,s2⟩:=HK2.o.resolve_left (λe=>by have:=HL2.o;rw[e]at this;simp at this;omega);have i1:k<l1.length:=by have:=HL.o;omega
  have i2:k<l2.length:=by have:=HL2.o;omega
  have c1:=(s1.below HB.o).c k i1;have c2:=(s2.below HB.o).c k i2;rw[zh4 _ l1 l2 k i1 i2]at hr;generalize l1[k]=x at *;generalize l2[k]=y at *;have lt1:=s1.lt;have lt2:=s2.lt;clear s1 s2;cases hq:(EF x y)
  ·have HE:Hi (AL EF l1 l2=false):=by unfold Hi;rw[hr.o,hq];rfl
   clear hr;unfold EF at hq;go_wp2_with fail;go_quiet (fail);go_wp2_with fail;go_ret;exact⟨za4 HE.o.symm,below_drewN HB.o _⟩
  have HE:Hi (AL EF l1 l2=AL EF (l1.drop (k+1)) (l2.drop (k+1))):=by unfold Hi;rw[hr.o,hq];rfl
  clear hr;unfold EF at hq;go_wp2_with fail;go_quiet (fail);go_wp2_with fail;go_roundw
  case rel=>exact⟨k+1,by omega,by go_num,HE,below_drewN HB.o _⟩
  case measure=>simp[intOf];omega
 have HE:Hi (AL EF l1 l2=true):=by unfold Hi;rw[hr.o,List.drop_of_length_le (by have:=HL.o;omega),List.drop_of_length_le (by have:=HL2.o;omega)];rfl
 clear hr;go_wp2_with fail;go_ret;exact⟨za4 HE.o.symm,HB.o⟩
structure wi6(w:World)(b o:Nat)(l:List Int):Prop where
 lt:b<w.heap.size
 c:∀(i:Nat) (h:i<l.length),w.cell? ⟨b,o+i,none⟩=some (nI l[i])
theorem wi6.below{l:List Int}(h:wi6 w b o l)(hb:Below w.heap.size w w1):wi6 w1 b o l :=
 ⟨lL_ h.lt hb.size,λi hi=>(hb.cell (p:=⟨b,o+i,none⟩) h.lt).trans (h.c i hi)⟩
def wd9(w:World)(v:Value)(l:List Int):Prop:=l.length<=maxLen/\∃ao cap,v=.slice ao l.length cap/\(l=[]\/∃b o,ao=some ⟨b,o,none⟩/\wi6 w b o l)
theorem zp4(v1 v2:Value)(l1 l2:List Int)(w:World)(h1:wd9 w v1 l1)(h2:wd9 w v2 l2) :
  Calls Tryz.prog 118 #[v1,v2] w λe w'=>e=.returned (.bool (AL DB l1 l2))/\Below w.heap.size w w':=by
 obtain⟨z1,ao1,cap1,rfl,k1⟩:=h1;obtain⟨z2,ao2,cap2,rfl,k2⟩:=h2;unfold maxLen at z1 z2;by_cases hl:l1.length=l2.length
 case neg =>
  have HE:Hi (AL DB l1 l2=false):=zh7 _ _ _ hl;have hl2:((l1.length:Int)==(l2.length:Int))=false:=by rw[beq_eq_false_iff_ne];omega
  clear k1 k2;go_enter Tryz.func118,Tryz.ntmps118;go_wp2_with fail;go_ret;exact⟨za4 HE.o.symm,Below.refl _ _⟩
 have HK1:Hi _:=k1;have HK2:Hi _:=k2;have HL:Hi _:=hl;obtain⟨n,hn⟩:∃n,l2.length=n:=⟨_,rfl⟩;rw[hl,hn];rw[hn]at HL;have HL2:Hi _:=hn;have hz:n<=9223372036854775807:=by rw[hn]at z2;exact z2
 clear k1 k2 hl hn z1 z2;go_enter Tryz.func118,Tryz.ntmps118;go_wp2_with fail;go_loopw [13] (λt wr=>∃k:Nat,k<=n/\t=nI k/\Hi (AL DB l1 l2=AL DB (l1.drop k) (l2.drop k))/\Hi (Below w.heap.size w wr)) (λt _=>n-(intOf t).toNat)
 case atStart=>exact⟨0,by omega,rfl,rfl,Below.refl _ _⟩
 obtain⟨k,hk,rfl,hr,HB⟩:=hrel;by_cases hlt:k<n
 ·obtain⟨b1,o1,rfl,s1⟩:=HK1.o.resolve_left (λe=>by have:=HL.o;rw[e]at this;simp at this;omega)
  obtain⟨b2,o2,rfl,s2⟩:=HK2.o.resolve_left (λe=>by have:=HL2.o;rw[e]at this;simp at this;omega);have i1:k<l1.length:=by have:=HL.o;omega
  have i2:k<l2.length:=by have:=HL2.o;omega
  have c1:=(s1.below HB.o).c k i1;have c2:=(s2.below HB.o).c k i2;rw[zh4 _ l1 l2 k i1 i2]at hr;generalize l1[k]=x at *;generalize l2[k]=y at *;have lt1:=s1.lt;have lt2:=s2.lt;clear s1 s2;cases hq:(DB x y)
  ·have HE:Hi (AL DB l1 l2=false):=by unfold Hi;rw[hr.o,hq];rfl
   clear hr;unfold DB at hq;go_wp2_with fail;go_quiet (fail);go_wp2_with fail;go_ret;exact⟨za4 HE.o.symm,below_drewN HB.o _⟩
  have HE:Hi (AL DB l1 l2=AL DB (l1.drop (k+1)) (l2.drop (k+1))):=by unfold Hi;rw[hr.o,hq];rfl
  clear hr;unfold DB at hq;go_wp2_with fail;go_quiet (fail);go_wp2_with fail;go_roundw
  case rel=>exact⟨k+1,by omega,by go_num,HE,below_drewN HB.o _⟩
  case measure=>simp[intOf];omega
 have HE:Hi (AL DB l1 l2=true):=by unfold Hi;rw[hr.o,List.drop_of_length_le (by have:=HL.o;omega),List.drop_of_length_le (by have:=HL2.o;omega)];rfl
 clear hr;go_wp2_with fail;go_ret;exact⟨za4 HE.o.symm,HB.o⟩
theorem wn6(a c:ByteArray)(b d:Int)(w:World):(Op.equalIn 10000 112 (.agg #[.string a,nI b]) (.agg #[.string c,nI d])).run Tryz.prog w=.ok (a.toList==c.toList&&b==d) w:=by
 rw[show(10000:Nat)=9999+1 from rfl,run_equalIn_agg w 9999 112 _ _ (by kernel_rfl) (by kernel_rfl)];simp only[Program.fieldsOf,Tryz.underlying112];go_simp
 by_cases h1:a.toList=c.toList<;>by_cases h2:b=d<;>simp[h1,h2]
theorem wn7:Tryz.prog.eqGuardType Tryz.prog.depth 112=false:=by kernel_rfl
structure wj2(w:World)(b o:Nat)(l:List (ByteArray×Int)):Prop where
 lt:b<w.heap.size
 c:∀(i:Nat) (h:i<l.length),w.cell? ⟨b,o+i*2,none⟩=some (.string l[i].1)
 d:∀(i:Nat) (h:i<l.length),w.cell? ⟨b,o+i*2+1,none⟩=some (nI l[i].2)
theorem wj2.below{l:List (ByteArray×Int)}(h:wj2 w b o l)(hb:Below w.heap.size w w1):wj2 w1 b o l :=
 ⟨lL_ h.lt hb.size,λi hi=>(hb.cell (p:=⟨b,o+i*2,none⟩) h.lt).trans (h.c i hi),λi hi=>(hb.cell (p:=⟨b,o+i*2+1,none⟩) h.lt).trans (h.d i hi)⟩
def wi7(w:World)(v:Value)(l:List (ByteArray×Int)):Prop:=l.length<=maxLen/\∃ao cap,v=.slice ao l.length cap/\(l=[]\/∃b o,ao=some ⟨b,o,none⟩/\wj2 w b o l)
theorem zS8(v1 v2:Value)(l1 l2:List (ByteArray×Int))(w:World)(h1:wi7 w v1 l1)(h2:wi7 w v2 l2) :
  Calls Tryz.prog 117 #[v1,v2] w λe w'=>e=.returned (.bool (AL EM l1 l2))/\Below w.heap.size w w':=by
 obtain⟨z1,ao1,cap1,rfl,k1⟩:=h1;obtain⟨z2,ao2,cap2,rfl,k2⟩:=h2;unfold maxLen at z1 z2;by_cases hl:l1.length=l2.length
 case neg =>
  have HE:Hi (AL EM l1 l2=false):=zh7 _ _ _ hl;have hl2:((l1.length:Int)==(l2.length:Int))=false:=by rw[beq_eq_false_iff_ne];omega
  clear k1 k2;go_enter Tryz.func117,Tryz.ntmps117;go_wp2_with fail;go_ret;exact⟨za4 HE.o.symm,Below.refl _ _⟩
 have HK1:Hi _:=k1;have HK2:Hi _:=k2;have HL:Hi _:=hl;obtain⟨n,hn⟩:∃n,l2.length=n:=⟨_,rfl⟩;rw[hl,hn];rw[hn]at HL;have HL2:Hi _:=hn;have hz:n<=9223372036854775807:=by rw[hn]at z2;exact z2
 clear k1 k2 hl hn z1 z2;go_enter Tryz.func117,Tryz.ntmps117;go_wp2_with fail;go_loopw [13] (λt wr=>∃k:Nat,k<=n/\t=nI k/\Hi (AL EM l1 l2=AL EM (l1.drop k) (l2.drop k))/\Hi (Below w.heap.size w wr)) (λt _=>n-(intOf t).toNat)
 case atStart=>exact⟨0,by omega,rfl,rfl,Below.refl _ _⟩
 obtain⟨k,hk,rfl,hr,HB⟩:=hrel;by_cases hlt:k<n
 ·obtain⟨b1,o1,rfl,s1⟩:=HK1.o.resolve_left (λe=>by have:=HL.o;rw[e]at this;simp at this;omega)
  obtain⟨b2,o2,rfl,s2⟩:=HK2.o.resolve_left (λe=>by have:=HL2.o;rw[e]at this;simp at this;omega);have i1:k<l1.length:=by have:=HL.o;omega
  have i2:k<l2.length:=by have:=HL2.o;omega
  have c1:=(s1.below HB.o).c k i1;have c2:=(s2.below HB.o).c k i2;have d1:=(s1.below HB.o).d k i1;have d2:=(s2.below HB.o).d k i2;rw[zh4 _ l1 l2 k i1 i2]at hr;generalize l1[k]=x at *;generalize l2[k]=y at *;have lt1:=s1.lt;have lt2:=s2.lt;clear s1 s2;cases hq:(EM x y)
  ·have HE:Hi (AL EM l1 l2=false):=by unfold Hi;rw[hr.o,hq];rfl
   clear hr;unfold EM at hq;have g76:=wn7;have e76:∀w,(Op.equalIn 10000 112 (.agg #[.string x.1,nI x.2]) (.agg #[.string y.1,nI y.2])).run Tryz.prog w=.ok false w:=λw=>by rw[wn6,hq]
   go_wp2_with fail;go_quiet (fail);go_wp2_with fail;go_ret;exact⟨za4 HE.o.symm,below_drewN HB.o _⟩
  have HE:Hi (AL EM l1 l2=AL EM (l1.drop (k+1)) (l2.drop (k+1))):=by unfold Hi;rw[hr.o,hq];rfl
  clear hr;unfold EM at hq;have g76:=wn7;have e76:∀w,(Op.equalIn 10000 112 (.agg #[.string x.1,nI x.2]) (.agg #[.string y.1,nI y.2])).run Tryz.prog w=.ok true w:=λw=>by rw[wn6,hq]
  go_wp2_with fail;go_quiet (fail);go_wp2_with fail;go_roundw
  case rel=>exact⟨k+1,by omega,by go_num,HE,below_drewN HB.o _⟩
  case measure=>simp[intOf];omega
 have HE:Hi (AL EM l1 l2=true):=by unfold Hi;rw[hr.o,List.drop_of_length_le (by have:=HL.o;omega),List.drop_of_length_le (by have:=HL2.o;omega)];rfl
 clear hr;go_wp2_with fail;go_ret;exact⟨za4 HE.o.symm,HB.o⟩
end
end Go.Proofs.YtpongdpnbclchaaGreatDoor
