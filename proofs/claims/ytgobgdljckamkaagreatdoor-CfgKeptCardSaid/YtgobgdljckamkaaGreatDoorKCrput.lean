import Derived.Test.YtgobgdljckamkaaGreatDoorKCrest
namespace Go.Proofs.YtgobgdljckamkaaGreatDoor
open Go.RowKit
set_option linter.unusedVariables false
set_option linter.unusedSimpArgs false
theorem zm8 (n:Nd) {v:Bool} (h:exprD n=v) (w:World):Calls Tryz.prog 94 #[ndVal n] w fun e w'=>e=.returned (.bool v)∧Below w.heap.size w w':=by have:=zO6 n w;rwa [h] at this
theorem zl1 (n:Nd) {v:Bool} (h:numberD n=v) (w:World):Calls Tryz.prog 95 #[ndVal n] w fun e w'=>e=.returned (.bool v)∧Below w.heap.size w w':=by have:=zC4 n w;rwa [h] at this
theorem ze0 (n:Nd) {v:Bool} (h:siteD n=v) (w:World):Calls Tryz.prog 96 #[ndVal n] w fun e w'=>e=.returned (.bool v)∧Below w.heap.size w w':=by have:=zO7 n w;rwa [h] at this
theorem zl2 (n:Nd) {v:Bool} (h:wantD n=v) (w:World):Calls Tryz.prog 97 #[ndVal n] w fun e w'=>e=.returned (.bool v)∧Below w.heap.size w w':=by have:=zO8 n w;rwa [h] at this
set_option maxHeartbeats 4000000 in
theorem yf9 (b:Nat) (n:Nd) (r:Rd) (w:World) (h:ReadIs w b r) (h3:r.sy.length<300) (hd0:0≤n.depth) (hd1:n.depth≤24) (hde:exprD n=true→1≤n.depth) :
  Calls Tryz.prog 61 #[.pointer (some ⟨b,0,none⟩),.int .i64 r.sy.length,ndVal n] w fun e w'=>e=.returned (.int .i64 (putD r r.sy.length n).1)∧Beside b w w'∧((putD r r.sy.length n).1=0→ReadIs w' b (putD r r.sy.length n).2):=by
 obtain ⟨nd,nk,nm,nu,no,np⟩:=n
 obtain ⟨d,hdd⟩:∃ d:Nat,nd=d:=⟨nd.toNat,by simp only at hd0;omega⟩
 subst hdd
 have hd24:d≤24:=by simp only at hd1;omega
 have hd2:(d:Int)<25:=by omega
 clear hd0 hd1
 have HN:Hid _:=h.names
 have HR:Hid _:=h.rest
 have HD:Hid (exprD ({ depth:=(d:Int),kind:=nk,name:=nm,num:=nu,op:=no,pos:=np }:Nd)=true→1≤d):=fun hx=>by have:=hde hx;simp only at this;omega
 have hlt:=h.names.lt
 have hgb:w.heap.size≠b:=by omega
 clear h hde
 have HB0:Hid (∀ o,Below w.heap.size w (w.alloc o)):=fun o=>(Below.refl _ _).alloc (Nat.le_refl _) _
 have HC0:Hid (∀ o,o=Obj.cells #[.int .i64 (d:Int),.int .i64 nk,.string nm,.int .i64 nu,.int .i64 no,.int .i64 np] 31 (0,0)→NdC (w.alloc o) w.heap.size ({ depth:=(d:Int),kind:=nk,name:=nm,num:=nu,op:=no,pos:=np }:Nd)):=by
  rintro o rfl
  exact ⟨by simp,by simp [go_sem],by simp [go_sem],by simp [go_sem],by simp [go_sem],by simp [go_sem],by simp [go_sem]⟩
 have HP:Hid (∃ s,s=symbolD r.sc r.ar ({ depth:=(d:Int),kind:=nk,name:=nm,num:=nu,op:=no,pos:=np }:Nd)):=⟨_,rfl⟩
 obtain ⟨⟨sy,co,sc1,ar1⟩,hs⟩:=HP.out
 have HS:Hid _:=hs.symm
 clear hs HP
 have HSym:Hid (∀ w',NamesIs w' b r.sc r.ar→Calls Tryz.prog 93 #[.pointer (some ⟨b,0,none⟩),ndVal ({ depth:=(d:Int),kind:=nk,name:=nm,num:=nu,op:=no,pos:=np }:Nd)] w' fun e w''=>e=.returned (.tuple #[.int .i64 sy,.int .i64 co])∧Named b w' w'' sc1 ar1):=fun w' h'=>by
  have:=zK1 b ({ depth:=(d:Int),kind:=nk,name:=nm,num:=nu,op:=no,pos:=np }:Nd) r.sc r.ar w' h'
  rwa [HS.out] at this
 by_cases hco:co=0
 case neg =>
  have hc1:(co==0)=false:=by rw [beq_eq_false_iff_ne];exact hco
  have HE:Hid (putD r r.sy.length ({ depth:=(d:Int),kind:=nk,name:=nm,num:=nu,op:=no,pos:=np }:Nd)=(co,r)):=by unfold Hid putD;rw [HS.out];simp [hco]
  go_enter Tryz.func61,Tryz.ntmps61
  go_wp2_with fail
  go_region_with (go_at_call 93;refine (HSym.out _ (HN.out.below (by first | exact (HB0.out _).drew | exact HB0.out _))).mono ?_;rintro e w1 ⟨rfl,hn1⟩)
  all_goals
   go_wp2_with fail
   go_ret
   rw [HE.out]
   refine ⟨rfl,?_,fun h0=>absurd h0 hco⟩
   first
    | exact (Named.after HN.out (HB0.out _).drew hn1).beside
    | exact (Named.after HN.out (HB0.out _) hn1).beside
 subst hco
 have HG:Hid (putD r r.sy.length ({ depth:=(d:Int),kind:=nk,name:=nm,num:=nu,op:=no,pos:=np }:Nd)=if exprD ({ depth:=(d:Int),kind:=nk,name:=nm,num:=nu,op:=no,pos:=np }:Nd)&&(numberD ({ depth:=(d:Int),kind:=nk,name:=nm,num:=nu,op:=no,pos:=np }:Nd) != r.nu (d-1)) then (42,r) else if siteD ({ depth:=(d:Int),kind:=nk,name:=nm,num:=nu,op:=no,pos:=np }:Nd)&&r.si.length==12 then (46,r) else (0,⟨sc1,ar1,r.sy++[sy],r.so++[if siteD ({ depth:=(d:Int),kind:=nk,name:=nm,num:=nu,op:=no,pos:=np }:Nd) then (r.si.length:Int) else -1],if siteD ({ depth:=(d:Int),kind:=nk,name:=nm,num:=nu,op:=no,pos:=np }:Nd) then r.si++[r.sy.length] else r.si,fun x=>if x=d then wantD ({ depth:=(d:Int),kind:=nk,name:=nm,num:=nu,op:=no,pos:=np }:Nd) else r.nu x⟩)):=by
  unfold Hid putD
  rw [HS.out]
  simp only [show ((d:Int)-1).toNat=d-1 from by omega,Int.toNat_natCast]
  simp
 go_enter Tryz.func61,Tryz.ntmps61
 go_wp2_with fail
 go_region_with (go_at_call 93;refine (HSym.out _ (HN.out.below (by first | exact (HB0.out _).drew | exact HB0.out _))).mono ?_;rintro e w1 ⟨rfl,hn1⟩)
 have HA:Hid (Named b w w1 sc1 ar1):=by
  first
   | exact Named.after HN.out (HB0.out _).drew hn1
   | exact Named.after HN.out (HB0.out _) hn1
 have HC1:Hid (NdC w1 w.heap.size ({ depth:=(d:Int),kind:=nk,name:=nm,num:=nu,op:=no,pos:=np }:Nd)):=by
  first
   | exact ((HC0.out _ rfl).below (Below.refl _ _).drew).beside hgb hn1.beside
   | exact (HC0.out _ rfl).beside hgb hn1.beside
 have HR1:Hid (RestIs w1 b r):=HR.out.keep HA.out.keep
 have HN1:Hid (NamesIs w1 b sc1 ar1):=HA.out.names
 have HS1:Hid (Beside b w w1):=HA.out.beside
 clear hn1 HSym HC0 HB0 HN HR HA
 obtain ⟨z1,c0,c1,c2,c3,c4,c5⟩:=HC1.out
 simp only at c0 c1 c2 c3 c4 c5
 have lt1:=HN1.out.lt
 cases hX:exprD ({ depth:=(d:Int),kind:=nk,name:=nm,num:=nu,op:=no,pos:=np }:Nd)
 case false =>
  have HG2:Hid (putD r r.sy.length ({ depth:=(d:Int),kind:=nk,name:=nm,num:=nu,op:=no,pos:=np }:Nd)=if siteD ({ depth:=(d:Int),kind:=nk,name:=nm,num:=nu,op:=no,pos:=np }:Nd)&&r.si.length==12 then (46,r) else (0,⟨sc1,ar1,r.sy++[sy],r.so++[if siteD ({ depth:=(d:Int),kind:=nk,name:=nm,num:=nu,op:=no,pos:=np }:Nd) then (r.si.length:Int) else -1],if siteD ({ depth:=(d:Int),kind:=nk,name:=nm,num:=nu,op:=no,pos:=np }:Nd) then r.si++[r.sy.length] else r.si,fun x=>if x=d then wantD ({ depth:=(d:Int),kind:=nk,name:=nm,num:=nu,op:=no,pos:=np }:Nd) else r.nu x⟩)):=by
   unfold Hid;rw [HG.out,hX];simp
  clear HG
  go_wp2_with fail
  refine wp_region_held_drew (S:=fun w'=>w'.cell? ⟨w.heap.size,0,none⟩=some (.int .i64 d)∧w'.cell? ⟨w.heap.size,1,none⟩=some (.int .i64 nk)∧w'.cell? ⟨w.heap.size,2,none⟩=some (.string nm)∧w'.cell? ⟨w.heap.size,3,none⟩=some (.int .i64 nu)∧w'.cell? ⟨w.heap.size,4,none⟩=some (.int .i64 no)∧w'.cell? ⟨w.heap.size,5,none⟩=some (.int .i64 np)) (by kernel_rfl) (by (try dsimp only);go_keep) (fun hHeld=>?_)
  refine wpAnyH_take (i:=0) (v:=?_) rfl (by kernel_rfl) (by kernel_rfl) (by kernel_rfl) (fun _ _ _ h=>h) (Or.inl ⟨by rfl,?_⟩) (by assumption) ?_
  rotate_left
  ·intro w hSw;(try dsimp only at hSw);first | (go_simp;done) | (go_simp;with_reducible rfl)
  (try simp only [Act.put,List.getElem_toArray,List.getElem_cons_succ,List.getElem_cons_zero,List.setIfInBounds_toArray,List.set_cons_zero,List.set_cons_succ])
  refine wpAnyH_ready (rs:=[1]) (by kernel_rfl) (by simp) ?_
  refine AllReadyH.cons rfl (fun K hK=>?_) AllReadyH.nil
  go_simp
  refine (zm8 ({ depth:=(d:Int),kind:=nk,name:=nm,num:=nu,op:=no,pos:=np }:Nd) hX _).mono ?_
  rintro e w3 ⟨rfl,hb3⟩
  have HC3:Hid (NdC w3 w.heap.size ({ depth:=(d:Int),kind:=nk,name:=nm,num:=nu,op:=no,pos:=np }:Nd)):=(HC1.out.below (Below.refl _ _).drew).below hb3
  obtain ⟨z3,q0,q1,q2,q3,q4,q5⟩:=HC3.out
  simp only at q0 q1 q2 q3 q4 q5
  have HR3:Hid (RestIs w3 b r):=(HR1.out.below lt1 (Below.refl _ _).drew).below lt1 hb3
  have HN3:Hid (NamesIs w3 b sc1 ar1):=(HN1.out.below (Below.refl _ _).drew).below hb3
  have HS3:Hid (Beside b w w3):=HS1.out.drew.trans (Beside.of hb3)
  have lt3:b<w3.heap.size:=Nat.lt_of_lt_of_le lt1 hb3.size
  go_wp2_with fail
  refine hK.out _ _ (by (try dsimp only);go_keep) (fun hHeld=>?_)
  clear hK K
  (try simp only [Act.put,List.getElem_toArray,List.getElem_cons_succ,List.getElem_cons_zero,List.setIfInBounds_toArray,List.set_cons_zero,List.set_cons_succ])
  refine wpAnyH_take (i:=2) (v:=?_) rfl (by kernel_rfl) (by kernel_rfl) (by kernel_rfl) (fun _ _ _ h=>h) (Or.inl ⟨by rfl,?_⟩) (by assumption) ?_
  rotate_left
  ·intro w hSw;(try dsimp only at hSw);first | (go_simp;done) | (go_simp;with_reducible rfl)
  (try simp only [Act.put,List.getElem_toArray,List.getElem_cons_succ,List.getElem_cons_zero,List.setIfInBounds_toArray,List.set_cons_zero,List.set_cons_succ])
  refine wpAnyH_take (i:=3) (v:=undef) rfl (by kernel_rfl) (by kernel_rfl) (by kernel_rfl) (fun _ _ _ h=>h) (Or.inr ⟨by rfl,rfl⟩) (by assumption) ?_
  (try simp only [Act.put,List.getElem_toArray,List.getElem_cons_succ,List.getElem_cons_zero,List.setIfInBounds_toArray,List.set_cons_zero,List.set_cons_succ])
  refine wpAnyH_take (i:=4) (v:=undef) rfl (by kernel_rfl) (by kernel_rfl) (by kernel_rfl) (fun _ _ _ h=>h) (Or.inr ⟨by rfl,rfl⟩) (by assumption) ?_
  (try simp only [Act.put,List.getElem_toArray,List.getElem_cons_succ,List.getElem_cons_zero,List.setIfInBounds_toArray,List.set_cons_zero,List.set_cons_succ])
  refine wpAnyH_take (i:=5) (v:=undef) rfl (by kernel_rfl) (by kernel_rfl) (by kernel_rfl) (fun _ _ _ h=>h) (Or.inr ⟨by rfl,rfl⟩) (by assumption) ?_
  (try simp only [Act.put,List.getElem_toArray,List.getElem_cons_succ,List.getElem_cons_zero,List.setIfInBounds_toArray,List.set_cons_zero,List.set_cons_succ])
  refine wpAnyH_take (i:=6) (v:=undef) rfl (by kernel_rfl) (by kernel_rfl) (by kernel_rfl) (fun _ _ _ h=>h) (Or.inr ⟨by rfl,rfl⟩) (by assumption) ?_
  (try simp only [Act.put,List.getElem_toArray,List.getElem_cons_succ,List.getElem_cons_zero,List.setIfInBounds_toArray,List.set_cons_zero,List.set_cons_succ])
  refine wpAnyH_take (i:=7) (v:=undef) rfl (by kernel_rfl) (by kernel_rfl) (by kernel_rfl) (fun _ _ _ h=>h) (Or.inr ⟨by rfl,rfl⟩) (by assumption) ?_
  (try simp only [Act.put,List.getElem_toArray,List.getElem_cons_succ,List.getElem_cons_zero,List.setIfInBounds_toArray,List.set_cons_zero,List.set_cons_succ])
  refine wpAnyH_take (i:=8) (v:=undef) rfl (by kernel_rfl) (by kernel_rfl) (by kernel_rfl) (fun _ _ _ h=>h) (Or.inr ⟨by rfl,rfl⟩) (by assumption) ?_
  (try simp only [Act.put,List.getElem_toArray,List.getElem_cons_succ,List.getElem_cons_zero,List.setIfInBounds_toArray,List.set_cons_zero,List.set_cons_succ])
  refine wpAnyH_take (i:=9) (v:=undef) rfl (by kernel_rfl) (by kernel_rfl) (by kernel_rfl) (fun _ _ _ h=>h) (Or.inr ⟨by rfl,rfl⟩) (by assumption) ?_
  (try simp only [Act.put,List.getElem_toArray,List.getElem_cons_succ,List.getElem_cons_zero,List.setIfInBounds_toArray,List.set_cons_zero,List.set_cons_succ])
  refine wpAnyH_take (i:=10) (v:=undef) rfl (by kernel_rfl) (by kernel_rfl) (by kernel_rfl) (fun _ _ _ h=>h) (Or.inr ⟨by rfl,rfl⟩) (by assumption) ?_
  (try simp only [Act.put,List.getElem_toArray,List.getElem_cons_succ,List.getElem_cons_zero,List.setIfInBounds_toArray,List.set_cons_zero,List.set_cons_succ])
  refine wpAnyH_take (i:=11) (v:=undef) rfl (by kernel_rfl) (by kernel_rfl) (by kernel_rfl) (fun _ _ _ h=>h) (Or.inr ⟨by rfl,rfl⟩) (by assumption) ?_
  (try simp only [Act.put,List.getElem_toArray,List.getElem_cons_succ,List.getElem_cons_zero,List.setIfInBounds_toArray,List.set_cons_zero,List.set_cons_succ])
  refine wpAnyH_take (i:=12) (v:=undef) rfl (by kernel_rfl) (by kernel_rfl) (by kernel_rfl) (fun _ _ _ h=>h) (Or.inr ⟨by rfl,rfl⟩) (by assumption) ?_
  (try simp only [Act.put,List.getElem_toArray,List.getElem_cons_succ,List.getElem_cons_zero,List.setIfInBounds_toArray,List.set_cons_zero,List.set_cons_succ])
  refine wpAnyH_take (i:=13) (v:=undef) rfl (by kernel_rfl) (by kernel_rfl) (by kernel_rfl) (fun _ _ _ h=>h) (Or.inr ⟨by rfl,rfl⟩) (by assumption) ?_
  (try simp only [Act.put,List.getElem_toArray,List.getElem_cons_succ,List.getElem_cons_zero,List.setIfInBounds_toArray,List.set_cons_zero,List.set_cons_succ])
  refine wpAnyH_take (i:=14) (v:=?_) rfl (by kernel_rfl) (by kernel_rfl) (by kernel_rfl) (fun _ _ _ h=>h) (Or.inl ⟨by rfl,?_⟩) (by assumption) ?_
  rotate_left
  ·intro w hSw;(try dsimp only at hSw);first | (go_simp;done) | (go_simp;with_reducible rfl)
  (try simp only [Act.put,List.getElem_toArray,List.getElem_cons_succ,List.getElem_cons_zero,List.setIfInBounds_toArray,List.set_cons_zero,List.set_cons_succ])
  refine wpAnyH_take (i:=15) (v:=?_) rfl (by kernel_rfl) (by kernel_rfl) (by kernel_rfl) (fun _ _ _ h=>h) (Or.inl ⟨by rfl,?_⟩) (by assumption) ?_
  rotate_left
  ·intro w hSw;(try dsimp only at hSw);first | (go_simp;done) | (go_simp;with_reducible rfl)
  (try simp only [Act.put,List.getElem_toArray,List.getElem_cons_succ,List.getElem_cons_zero,List.setIfInBounds_toArray,List.set_cons_zero,List.set_cons_succ])
  refine wpAnyH_done (by kernel_rfl) ?_ _
  clear c0 c1 c2 c3 c4 c5
  cases hT:siteD ({ depth:=(d:Int),kind:=nk,name:=nm,num:=nu,op:=no,pos:=np }:Nd)
  case false =>
   have HG3:Hid (putD r r.sy.length ({ depth:=(d:Int),kind:=nk,name:=nm,num:=nu,op:=no,pos:=np }:Nd)=(0,⟨sc1,ar1,r.sy++[sy],r.so++[-1],r.si,fun x=>if x=d then wantD ({ depth:=(d:Int),kind:=nk,name:=nm,num:=nu,op:=no,pos:=np }:Nd) else r.nu x⟩)):=by
    unfold Hid;rw [HG2.out,hT];simp
   clear HG2
   go_wp2_with fail
   refine (ze0 ({ depth:=(d:Int),kind:=nk,name:=nm,num:=nu,op:=no,pos:=np }:Nd) hT _).mono ?_
   rintro e w4 ⟨rfl,hb4⟩
   have HC4:Hid (NdC w4 w.heap.size ({ depth:=(d:Int),kind:=nk,name:=nm,num:=nu,op:=no,pos:=np }:Nd)):=HC3.out.below hb4
   have HR4:Hid (RestIs w4 b r):=HR3.out.below lt3 hb4
   have HN4:Hid (NamesIs w4 b sc1 ar1):=HN3.out.below hb4
   have HS4:Hid (Beside b w w4):=HS3.out.trans (Beside.of hb4)
   have lt4:b<w4.heap.size:=Nat.lt_of_lt_of_le lt3 hb4.size
   clear q0 q1 q2 q3 q4 q5
   obtain ⟨z4,q0,q1,q2,q3,q4,q5⟩:=HC4.out
   simp only at q0 q1 q2 q3 q4 q5
   have f4:=HR4.out.found
   go_wp2_with fail
   obtain ⟨wv,hwv⟩:∃ v,wantD ({ depth:=(d:Int),kind:=nk,name:=nm,num:=nu,op:=no,pos:=np }:Nd)=v:=⟨_,rfl⟩
   have HWV:Hid _:=hwv
   have hu4:=HR4.out.nu d (by omega)
   have wf4:=HN4.out.warm
   have hg1:¬w.heap.size=b:=hgb
   have hg2:¬b=w.heap.size:=fun e=>hgb e.symm
   go_region_held3 (fun w'=>w'.cell? ⟨w.heap.size,0,none⟩=some (.int .i64 d)∧w'.cell? ⟨w.heap.size,1,none⟩=some (.int .i64 nk)∧w'.cell? ⟨w.heap.size,2,none⟩=some (.string nm)∧w'.cell? ⟨w.heap.size,3,none⟩=some (.int .i64 nu)∧w'.cell? ⟨w.heap.size,4,none⟩=some (.int .i64 no)∧w'.cell? ⟨w.heap.size,5,none⟩=some (.int .i64 np)) (go_keep)
    (first
    | (go_at_call 97;refine (zl2 ({ depth:=(d:Int),kind:=nk,name:=nm,num:=nu,op:=no,pos:=np }:Nd) HWV.out _).mono ?_;rintro e w5 ⟨rfl,hb5⟩;have HC5:Hid (NdC w5 w.heap.size ({ depth:=(d:Int),kind:=nk,name:=nm,num:=nu,op:=no,pos:=np }:Nd)):=(HC4.out.below (Below.refl _ _).drew).below hb5;obtain ⟨z5,s0,s1,s2,s3,s4,s5⟩:=HC5.out;simp only at s0 s1 s2 s3 s4 s5;have HR5:Hid (RestIs w5 b r):=(HR4.out.below lt4 (Below.refl _ _).drew).below lt4 hb5;have HN5:Hid (NamesIs w5 b sc1 ar1):=(HN4.out.below (Below.refl _ _).drew).below hb5;have HS5:Hid (Beside b w w5):=HS4.out.drew.trans (Beside.of hb5);have hu5:=HR5.out.nu d (by omega);have wf5:=HN5.out.warm)
    | fail)
   have HR6:Hid (RestIs (w5.setCell ⟨b,629+d,none⟩ (.bool wv)) b { r with nu:=fun x=>if x=d then wv else r.nu x }):=HR5.out.nu_set (by omega) wv
   have HN6:Hid (NamesIs (w5.setCell ⟨b,629+d,none⟩ (.bool wv)) b sc1 ar1):=HN5.out.hi (by omega) hu5 _
   have HJ6:Hid (Beside b w (w5.setCell ⟨b,629+d,none⟩ (.bool wv))):=HS5.out.set _ _
   have HC6:Hid (NdC (w5.setCell ⟨b,629+d,none⟩ (.bool wv)) w.heap.size ({ depth:=(d:Int),kind:=nk,name:=nm,num:=nu,op:=no,pos:=np }:Nd)):=HC5.out.beside hgb (Beside.set (Beside.of (Below.refl _ _)) _ _)
   clear q0 q1 q2 q3 q4 q5 s0 s1 s2 s3 s4 s5 hu4 hu5 wf4 wf5 f4 hwv z5
   obtain ⟨w6,hw6⟩:∃ w6,w6=w5.setCell ⟨b,629+d,none⟩ (.bool wv):=⟨_,rfl⟩
   rw [←hw6] at HR6 HN6 HJ6 HC6
   rw [←hw6]
   try clear hHeld
   clear hw6
   obtain ⟨v16,m16⟩:=HR6.out.room (16+r.sy.length) (by omega) (by omega)
   obtain ⟨v316,m316⟩:=HR6.out.room (316+r.sy.length) (by omega) (by omega)
   have wf6:=HN6.out.warm
   have hl3:(r.sy.length:Int)<300:=by omega
   have hx1:¬316+r.sy.length=16+r.sy.length:=by omega
   obtain ⟨z6,s0,s1,s2,s3,s4,s5⟩:=HC6.out
   simp only at s0 s1 s2 s3 s4 s5
   go_wp2_with fail
   have HR7:Hid (RestIs ((w6.setCell ⟨b,16+r.sy.length,none⟩ (.int .i64 sy)).setCell ⟨b,316+r.sy.length,none⟩ (.int .i64 (-1))) b { r with sy:=r.sy++[sy],so:=r.so++[-1],nu:=fun x=>if x=d then wv else r.nu x }):=HR6.out.push h3 sy (-1)
   have HN7:Hid (NamesIs ((w6.setCell ⟨b,16+r.sy.length,none⟩ (.int .i64 sy)).setCell ⟨b,316+r.sy.length,none⟩ (.int .i64 (-1))) b sc1 ar1):=by
    obtain ⟨v1,r1⟩:=zd9 (v:=.int .i64 sy) m16 HR6.out.room (316+r.sy.length) (by omega) (by omega)
    exact (HN6.out.hi (by omega) m16 _).hi (by omega) r1 _
   have HJ7:Hid (Beside b w ((w6.setCell ⟨b,16+r.sy.length,none⟩ (.int .i64 sy)).setCell ⟨b,316+r.sy.length,none⟩ (.int .i64 (-1)))):=(HJ6.out.set _ _).set _ _
   obtain ⟨w7,hw7⟩:∃ w7,w7=(w6.setCell ⟨b,16+r.sy.length,none⟩ (.int .i64 sy)).setCell ⟨b,316+r.sy.length,none⟩ (.int .i64 (-1)):=⟨_,rfl⟩
   rw [←hw7] at HR7 HN7 HJ7
   rw [←hw7]
   clear hw7 m16 m316 wf6 s0 s1 s2 s3 s4 s5 z6
   refine (ze0 ({ depth:=(d:Int),kind:=nk,name:=nm,num:=nu,op:=no,pos:=np }:Nd) hT _).mono ?_
   rintro e w8 ⟨rfl,hb8⟩
   have HR8:Hid _:=HR7.out.below HN7.out.lt hb8
   have HN8:Hid (NamesIs w8 b sc1 ar1):=HN7.out.below hb8
   have HS8:Hid (Beside b w w8):=HJ7.out.trans (Beside.of hb8)
   go_wp2_with fail
   go_ret
   rw [HG3.out]
   exact ⟨rfl,HS8.out,fun _=>⟨HN8.out,by rw [HWV.out];exact HR8.out.other _ _⟩⟩
  case true =>
   by_cases h12:r.si.length=12
   case pos =>
    have HG3:Hid (putD r r.sy.length ({ depth:=(d:Int),kind:=nk,name:=nm,num:=nu,op:=no,pos:=np }:Nd)=(46,r)):=by
     unfold Hid;rw [HG2.out,hT];simp [h12]
    clear HG2
    go_wp2_with fail
    refine (ze0 ({ depth:=(d:Int),kind:=nk,name:=nm,num:=nu,op:=no,pos:=np }:Nd) hT _).mono ?_
    rintro e w4 ⟨rfl,hb4⟩
    have HC4:Hid (NdC w4 w.heap.size ({ depth:=(d:Int),kind:=nk,name:=nm,num:=nu,op:=no,pos:=np }:Nd)):=HC3.out.below hb4
    have HR4:Hid (RestIs w4 b r):=HR3.out.below lt3 hb4
    have HN4:Hid (NamesIs w4 b sc1 ar1):=HN3.out.below hb4
    have HS4:Hid (Beside b w w4):=HS3.out.trans (Beside.of hb4)
    have lt4:b<w4.heap.size:=Nat.lt_of_lt_of_le lt3 hb4.size
    clear q0 q1 q2 q3 q4 q5
    obtain ⟨z4,q0,q1,q2,q3,q4,q5⟩:=HC4.out
    simp only at q0 q1 q2 q3 q4 q5
    have f4:=HR4.out.found
    rw [h12] at f4
    go_wp2_with fail
    go_ret
    rw [HG3.out]
    exact ⟨rfl,HS4.out,fun h0=>absurd h0 (by simp)⟩
   case neg =>
    have hfl:r.si.length<12:=by have:=HR3.out.sites;omega
    have hf1:(r.si.length:Int)<12:=by omega
    have hf2:((r.si.length:Int)==12)=false:=by rw [beq_eq_false_iff_ne];omega
    have HG3:Hid (putD r r.sy.length ({ depth:=(d:Int),kind:=nk,name:=nm,num:=nu,op:=no,pos:=np }:Nd)=(0,⟨sc1,ar1,r.sy++[sy],r.so++[(r.si.length:Int)],r.si++[r.sy.length],fun x=>if x=d then wantD ({ depth:=(d:Int),kind:=nk,name:=nm,num:=nu,op:=no,pos:=np }:Nd) else r.nu x⟩)):=by
     unfold Hid;rw [HG2.out,hT];simp [h12]
    clear HG2 h12
    go_wp2_with fail
    refine (ze0 ({ depth:=(d:Int),kind:=nk,name:=nm,num:=nu,op:=no,pos:=np }:Nd) hT _).mono ?_
    rintro e w4 ⟨rfl,hb4⟩
    have HC4:Hid (NdC w4 w.heap.size ({ depth:=(d:Int),kind:=nk,name:=nm,num:=nu,op:=no,pos:=np }:Nd)):=HC3.out.below hb4
    have HR4:Hid (RestIs w4 b r):=HR3.out.below lt3 hb4
    have HN4:Hid (NamesIs w4 b sc1 ar1):=HN3.out.below hb4
    have HS4:Hid (Beside b w w4):=HS3.out.trans (Beside.of hb4)
    have lt4:b<w4.heap.size:=Nat.lt_of_lt_of_le lt3 hb4.size
    clear q0 q1 q2 q3 q4 q5
    obtain ⟨z4,q0,q1,q2,q3,q4,q5⟩:=HC4.out
    simp only at q0 q1 q2 q3 q4 q5
    have f4:=HR4.out.found
    go_wp2_with fail
    obtain ⟨wv,hwv⟩:∃ v,wantD ({ depth:=(d:Int),kind:=nk,name:=nm,num:=nu,op:=no,pos:=np }:Nd)=v:=⟨_,rfl⟩
    have HWV:Hid _:=hwv
    have hu4:=HR4.out.nu d (by omega)
    have wf4:=HN4.out.warm
    have hg1:¬w.heap.size=b:=hgb
    have hg2:¬b=w.heap.size:=fun e=>hgb e.symm
    go_region_held3 (fun w'=>w'.cell? ⟨w.heap.size,0,none⟩=some (.int .i64 d)∧w'.cell? ⟨w.heap.size,1,none⟩=some (.int .i64 nk)∧w'.cell? ⟨w.heap.size,2,none⟩=some (.string nm)∧w'.cell? ⟨w.heap.size,3,none⟩=some (.int .i64 nu)∧w'.cell? ⟨w.heap.size,4,none⟩=some (.int .i64 no)∧w'.cell? ⟨w.heap.size,5,none⟩=some (.int .i64 np)) (go_keep)
     (first
     | (go_at_call 97;refine (zl2 ({ depth:=(d:Int),kind:=nk,name:=nm,num:=nu,op:=no,pos:=np }:Nd) HWV.out _).mono ?_;rintro e w5 ⟨rfl,hb5⟩;have HC5:Hid (NdC w5 w.heap.size ({ depth:=(d:Int),kind:=nk,name:=nm,num:=nu,op:=no,pos:=np }:Nd)):=(HC4.out.below (Below.refl _ _).drew).below hb5;obtain ⟨z5,s0,s1,s2,s3,s4,s5⟩:=HC5.out;simp only at s0 s1 s2 s3 s4 s5;have HR5:Hid (RestIs w5 b r):=(HR4.out.below lt4 (Below.refl _ _).drew).below lt4 hb5;have HN5:Hid (NamesIs w5 b sc1 ar1):=(HN4.out.below (Below.refl _ _).drew).below hb5;have HS5:Hid (Beside b w w5):=HS4.out.drew.trans (Beside.of hb5);have hu5:=HR5.out.nu d (by omega);have wf5:=HN5.out.warm)
     | fail)
    have HR6:Hid (RestIs (w5.setCell ⟨b,629+d,none⟩ (.bool wv)) b { r with nu:=fun x=>if x=d then wv else r.nu x }):=HR5.out.nu_set (by omega) wv
    have HN6:Hid (NamesIs (w5.setCell ⟨b,629+d,none⟩ (.bool wv)) b sc1 ar1):=HN5.out.hi (by omega) hu5 _
    have HJ6:Hid (Beside b w (w5.setCell ⟨b,629+d,none⟩ (.bool wv))):=HS5.out.set _ _
    have HC6:Hid (NdC (w5.setCell ⟨b,629+d,none⟩ (.bool wv)) w.heap.size ({ depth:=(d:Int),kind:=nk,name:=nm,num:=nu,op:=no,pos:=np }:Nd)):=HC5.out.beside hgb (Beside.set (Beside.of (Below.refl _ _)) _ _)
    clear q0 q1 q2 q3 q4 q5 s0 s1 s2 s3 s4 s5 hu4 hu5 wf4 wf5 f4 hwv z5
    obtain ⟨w6,hw6⟩:∃ w6,w6=w5.setCell ⟨b,629+d,none⟩ (.bool wv):=⟨_,rfl⟩
    rw [←hw6] at HR6 HN6 HJ6 HC6
    rw [←hw6]
    try clear hHeld
    clear hw6
    obtain ⟨v16,m16⟩:=HR6.out.room (16+r.sy.length) (by omega) (by omega)
    obtain ⟨v316,m316⟩:=HR6.out.room (316+r.sy.length) (by omega) (by omega)
    have wf6:=HN6.out.warm
    have hl3:(r.sy.length:Int)<300:=by omega
    have hx1:¬316+r.sy.length=16+r.sy.length:=by omega
    obtain ⟨z6,s0,s1,s2,s3,s4,s5⟩:=HC6.out
    simp only at s0 s1 s2 s3 s4 s5
    go_wp2_with fail
    have HR7:Hid (RestIs ((w6.setCell ⟨b,16+r.sy.length,none⟩ (.int .i64 sy)).setCell ⟨b,316+r.sy.length,none⟩ (.int .i64 (-1))) b { r with sy:=r.sy++[sy],so:=r.so++[-1],nu:=fun x=>if x=d then wv else r.nu x }):=HR6.out.push h3 sy (-1)
    have HN7:Hid (NamesIs ((w6.setCell ⟨b,16+r.sy.length,none⟩ (.int .i64 sy)).setCell ⟨b,316+r.sy.length,none⟩ (.int .i64 (-1))) b sc1 ar1):=by
     obtain ⟨v1,r1⟩:=zd9 (v:=.int .i64 sy) m16 HR6.out.room (316+r.sy.length) (by omega) (by omega)
     exact (HN6.out.hi (by omega) m16 _).hi (by omega) r1 _
    have HJ7:Hid (Beside b w ((w6.setCell ⟨b,16+r.sy.length,none⟩ (.int .i64 sy)).setCell ⟨b,316+r.sy.length,none⟩ (.int .i64 (-1)))):=(HJ6.out.set _ _).set _ _
    obtain ⟨w7,hw7⟩:∃ w7,w7=(w6.setCell ⟨b,16+r.sy.length,none⟩ (.int .i64 sy)).setCell ⟨b,316+r.sy.length,none⟩ (.int .i64 (-1)):=⟨_,rfl⟩
    rw [←hw7] at HR7 HN7 HJ7
    rw [←hw7]
    clear hw7 m16 m316 wf6 s0 s1 s2 s3 s4 s5 z6
    refine (ze0 ({ depth:=(d:Int),kind:=nk,name:=nm,num:=nu,op:=no,pos:=np }:Nd) hT _).mono ?_
    rintro e w8 ⟨rfl,hb8⟩
    have HR8:Hid _:=HR7.out.below HN7.out.lt hb8
    have HN8:Hid (NamesIs w8 b sc1 ar1):=HN7.out.below hb8
    have HS8:Hid (Beside b w w8):=HJ7.out.trans (Beside.of hb8)
    have f8:=HR8.out.found
    obtain ⟨v1,m1⟩:=HR8.out.room (316+r.sy.length) (by omega) (by omega)
    obtain ⟨v2,m2⟩:=HR8.out.room (616+r.si.length) (by omega) (by omega)
    have hz1:¬628=316+r.sy.length:=by omega
    have hz2:¬616+r.si.length=316+r.sy.length:=by omega
    have hz3:¬628=616+r.si.length:=by omega
    have wf8:=HN8.out.warm
    have HL:Hid (r.so.length=r.sy.length):=HR3.out.len
    have HW:Hid _:=HR8.out.site rfl r.sy.length hfl
    have HW2:Hid _:=HR8.out.site_names HN8.out rfl r.sy.length hfl
    unfold Hid at HW HW2
    simp only [HL.out] at HW HW2
    have HV:Hid _:=HW
    have HV2:Hid _:=HW2
    clear HW HW2
    go_wp2_with fail
    go_region
    go_wp2_with fail
    go_region
    go_wp2_with fail
    go_ret
    rw [HG3.out]
    exact ⟨rfl,Beside.drew (Beside.drew (((HS8.out.set _ _).set _ _).set _ _)),fun _=>⟨HV2.out.below ((Below.refl _ _).drew.drew),by rw [HWV.out];exact ((HV.out.other _ _).below (by simpa using HN8.out.lt) ((Below.refl _ _).drew.drew))⟩⟩
 case true =>
  have hp:1≤d:=HD.out hX
  obtain ⟨y,hy⟩:∃ y,d-1=y:=⟨_,rfl⟩
  have hw1:IntKind.i64.wrap ((d:Int)-1)=(y:Int):=by rw [Go.IntWalk.i64_in _ (by omega)];omega
  have hq2:(y:Int)<25:=by omega
  have hq3:y<25:=by omega
  rw [hy] at HG
  clear hy
  have cn:=HR1.out.nu y hq3
  cases hM:numberD ({ depth:=(d:Int),kind:=nk,name:=nm,num:=nu,op:=no,pos:=np }:Nd)<;>cases hV:r.nu y<;>rw [hV] at cn
  case false.false =>
   have HG2:Hid (putD r r.sy.length ({ depth:=(d:Int),kind:=nk,name:=nm,num:=nu,op:=no,pos:=np }:Nd)=if siteD ({ depth:=(d:Int),kind:=nk,name:=nm,num:=nu,op:=no,pos:=np }:Nd)&&r.si.length==12 then (46,r) else (0,⟨sc1,ar1,r.sy++[sy],r.so++[if siteD ({ depth:=(d:Int),kind:=nk,name:=nm,num:=nu,op:=no,pos:=np }:Nd) then (r.si.length:Int) else -1],if siteD ({ depth:=(d:Int),kind:=nk,name:=nm,num:=nu,op:=no,pos:=np }:Nd) then r.si++[r.sy.length] else r.si,fun x=>if x=d then wantD ({ depth:=(d:Int),kind:=nk,name:=nm,num:=nu,op:=no,pos:=np }:Nd) else r.nu x⟩)):=by
    unfold Hid;rw [HG.out,hX,hM,hV];simp
   clear HG
   go_wp2_with fail
   go_region_held3 (fun w'=>w'.cell? ⟨w.heap.size,0,none⟩=some (.int .i64 d)∧w'.cell? ⟨w.heap.size,1,none⟩=some (.int .i64 nk)∧w'.cell? ⟨w.heap.size,2,none⟩=some (.string nm)∧w'.cell? ⟨w.heap.size,3,none⟩=some (.int .i64 nu)∧w'.cell? ⟨w.heap.size,4,none⟩=some (.int .i64 no)∧w'.cell? ⟨w.heap.size,5,none⟩=some (.int .i64 np)∧w'.cell? ⟨b,629+y,none⟩=some (.bool false)) (go_keep)
    (first
    | (go_at_call 94;refine (zm8 ({ depth:=(d:Int),kind:=nk,name:=nm,num:=nu,op:=no,pos:=np }:Nd) hX _).mono ?_;rintro e w2 ⟨rfl,hb2⟩;have HC2:Hid (NdC w2 w.heap.size ({ depth:=(d:Int),kind:=nk,name:=nm,num:=nu,op:=no,pos:=np }:Nd)):=(HC1.out.below (Below.refl _ _).drew).below hb2;obtain ⟨z2,p0,p1,p2,p3,p4,p5⟩:=HC2.out;simp only at p0 p1 p2 p3 p4 p5;have HR2:Hid (RestIs w2 b r):=(HR1.out.below lt1 (Below.refl _ _).drew).below lt1 hb2;have HN2:Hid (NamesIs w2 b sc1 ar1):=(HN1.out.below (Below.refl _ _).drew).below hb2;have HS2:Hid (Beside b w w2):=HS1.out.drew.trans (Beside.of hb2);have cn2:=HR2.out.nu y hq3;rw [hV] at cn2;have lt2:b<w2.heap.size:=Nat.lt_of_lt_of_le lt1 hb2.size)
    | (go_at_call 95;refine (zl1 ({ depth:=(d:Int),kind:=nk,name:=nm,num:=nu,op:=no,pos:=np }:Nd) hM _).mono ?_;rintro e w3 ⟨rfl,hb3⟩;have HC3:Hid (NdC w3 w.heap.size ({ depth:=(d:Int),kind:=nk,name:=nm,num:=nu,op:=no,pos:=np }:Nd)):=HC2.out.below hb3;obtain ⟨z3,q0,q1,q2,q3,q4,q5⟩:=HC3.out;simp only at q0 q1 q2 q3 q4 q5;have HR3:Hid (RestIs w3 b r):=HR2.out.below lt2 hb3;have HN3:Hid (NamesIs w3 b sc1 ar1):=HN2.out.below hb3;have HS3:Hid (Beside b w w3):=HS2.out.trans (Beside.of hb3);have cn3:=HR3.out.nu y hq3;rw [hV] at cn3;have lt3:b<w3.heap.size:=Nat.lt_of_lt_of_le lt2 hb3.size))
   clear c0 c1 c2 c3 c4 c5 p0 p1 p2 p3 p4 p5 cn cn2 cn3
   cases hT:siteD ({ depth:=(d:Int),kind:=nk,name:=nm,num:=nu,op:=no,pos:=np }:Nd)
   case false =>
    have HG3:Hid (putD r r.sy.length ({ depth:=(d:Int),kind:=nk,name:=nm,num:=nu,op:=no,pos:=np }:Nd)=(0,⟨sc1,ar1,r.sy++[sy],r.so++[-1],r.si,fun x=>if x=d then wantD ({ depth:=(d:Int),kind:=nk,name:=nm,num:=nu,op:=no,pos:=np }:Nd) else r.nu x⟩)):=by
     unfold Hid;rw [HG2.out,hT];simp
    clear HG2
    go_wp2_with fail
    refine (ze0 ({ depth:=(d:Int),kind:=nk,name:=nm,num:=nu,op:=no,pos:=np }:Nd) hT _).mono ?_
    rintro e w4 ⟨rfl,hb4⟩
    have HC4:Hid (NdC w4 w.heap.size ({ depth:=(d:Int),kind:=nk,name:=nm,num:=nu,op:=no,pos:=np }:Nd)):=HC3.out.below hb4
    have HR4:Hid (RestIs w4 b r):=HR3.out.below lt3 hb4
    have HN4:Hid (NamesIs w4 b sc1 ar1):=HN3.out.below hb4
    have HS4:Hid (Beside b w w4):=HS3.out.trans (Beside.of hb4)
    have lt4:b<w4.heap.size:=Nat.lt_of_lt_of_le lt3 hb4.size
    clear q0 q1 q2 q3 q4 q5
    obtain ⟨z4,q0,q1,q2,q3,q4,q5⟩:=HC4.out
    simp only at q0 q1 q2 q3 q4 q5
    have f4:=HR4.out.found
    go_wp2_with fail
    obtain ⟨wv,hwv⟩:∃ v,wantD ({ depth:=(d:Int),kind:=nk,name:=nm,num:=nu,op:=no,pos:=np }:Nd)=v:=⟨_,rfl⟩
    have HWV:Hid _:=hwv
    have hu4:=HR4.out.nu d (by omega)
    have wf4:=HN4.out.warm
    have hg1:¬w.heap.size=b:=hgb
    have hg2:¬b=w.heap.size:=fun e=>hgb e.symm
    go_region_held3 (fun w'=>w'.cell? ⟨w.heap.size,0,none⟩=some (.int .i64 d)∧w'.cell? ⟨w.heap.size,1,none⟩=some (.int .i64 nk)∧w'.cell? ⟨w.heap.size,2,none⟩=some (.string nm)∧w'.cell? ⟨w.heap.size,3,none⟩=some (.int .i64 nu)∧w'.cell? ⟨w.heap.size,4,none⟩=some (.int .i64 no)∧w'.cell? ⟨w.heap.size,5,none⟩=some (.int .i64 np)) (go_keep)
     (first
     | (go_at_call 97;refine (zl2 ({ depth:=(d:Int),kind:=nk,name:=nm,num:=nu,op:=no,pos:=np }:Nd) HWV.out _).mono ?_;rintro e w5 ⟨rfl,hb5⟩;have HC5:Hid (NdC w5 w.heap.size ({ depth:=(d:Int),kind:=nk,name:=nm,num:=nu,op:=no,pos:=np }:Nd)):=(HC4.out.below (Below.refl _ _).drew).below hb5;obtain ⟨z5,s0,s1,s2,s3,s4,s5⟩:=HC5.out;simp only at s0 s1 s2 s3 s4 s5;have HR5:Hid (RestIs w5 b r):=(HR4.out.below lt4 (Below.refl _ _).drew).below lt4 hb5;have HN5:Hid (NamesIs w5 b sc1 ar1):=(HN4.out.below (Below.refl _ _).drew).below hb5;have HS5:Hid (Beside b w w5):=HS4.out.drew.trans (Beside.of hb5);have hu5:=HR5.out.nu d (by omega);have wf5:=HN5.out.warm)
     | fail)
    have HR6:Hid (RestIs (w5.setCell ⟨b,629+d,none⟩ (.bool wv)) b { r with nu:=fun x=>if x=d then wv else r.nu x }):=HR5.out.nu_set (by omega) wv
    have HN6:Hid (NamesIs (w5.setCell ⟨b,629+d,none⟩ (.bool wv)) b sc1 ar1):=HN5.out.hi (by omega) hu5 _
    have HJ6:Hid (Beside b w (w5.setCell ⟨b,629+d,none⟩ (.bool wv))):=HS5.out.set _ _
    have HC6:Hid (NdC (w5.setCell ⟨b,629+d,none⟩ (.bool wv)) w.heap.size ({ depth:=(d:Int),kind:=nk,name:=nm,num:=nu,op:=no,pos:=np }:Nd)):=HC5.out.beside hgb (Beside.set (Beside.of (Below.refl _ _)) _ _)
    clear q0 q1 q2 q3 q4 q5 s0 s1 s2 s3 s4 s5 hu4 hu5 wf4 wf5 f4 hwv z5
    obtain ⟨w6,hw6⟩:∃ w6,w6=w5.setCell ⟨b,629+d,none⟩ (.bool wv):=⟨_,rfl⟩
    rw [←hw6] at HR6 HN6 HJ6 HC6
    rw [←hw6]
    try clear hHeld
    clear hw6
    obtain ⟨v16,m16⟩:=HR6.out.room (16+r.sy.length) (by omega) (by omega)
    obtain ⟨v316,m316⟩:=HR6.out.room (316+r.sy.length) (by omega) (by omega)
    have wf6:=HN6.out.warm
    have hl3:(r.sy.length:Int)<300:=by omega
    have hx1:¬316+r.sy.length=16+r.sy.length:=by omega
    obtain ⟨z6,s0,s1,s2,s3,s4,s5⟩:=HC6.out
    simp only at s0 s1 s2 s3 s4 s5
    go_wp2_with fail
    have HR7:Hid (RestIs ((w6.setCell ⟨b,16+r.sy.length,none⟩ (.int .i64 sy)).setCell ⟨b,316+r.sy.length,none⟩ (.int .i64 (-1))) b { r with sy:=r.sy++[sy],so:=r.so++[-1],nu:=fun x=>if x=d then wv else r.nu x }):=HR6.out.push h3 sy (-1)
    have HN7:Hid (NamesIs ((w6.setCell ⟨b,16+r.sy.length,none⟩ (.int .i64 sy)).setCell ⟨b,316+r.sy.length,none⟩ (.int .i64 (-1))) b sc1 ar1):=by
     obtain ⟨v1,r1⟩:=zd9 (v:=.int .i64 sy) m16 HR6.out.room (316+r.sy.length) (by omega) (by omega)
     exact (HN6.out.hi (by omega) m16 _).hi (by omega) r1 _
    have HJ7:Hid (Beside b w ((w6.setCell ⟨b,16+r.sy.length,none⟩ (.int .i64 sy)).setCell ⟨b,316+r.sy.length,none⟩ (.int .i64 (-1)))):=(HJ6.out.set _ _).set _ _
    obtain ⟨w7,hw7⟩:∃ w7,w7=(w6.setCell ⟨b,16+r.sy.length,none⟩ (.int .i64 sy)).setCell ⟨b,316+r.sy.length,none⟩ (.int .i64 (-1)):=⟨_,rfl⟩
    rw [←hw7] at HR7 HN7 HJ7
    rw [←hw7]
    clear hw7 m16 m316 wf6 s0 s1 s2 s3 s4 s5 z6
    refine (ze0 ({ depth:=(d:Int),kind:=nk,name:=nm,num:=nu,op:=no,pos:=np }:Nd) hT _).mono ?_
    rintro e w8 ⟨rfl,hb8⟩
    have HR8:Hid _:=HR7.out.below HN7.out.lt hb8
    have HN8:Hid (NamesIs w8 b sc1 ar1):=HN7.out.below hb8
    have HS8:Hid (Beside b w w8):=HJ7.out.trans (Beside.of hb8)
    go_wp2_with fail
    go_ret
    rw [HG3.out]
    exact ⟨rfl,HS8.out,fun _=>⟨HN8.out,by rw [HWV.out];exact HR8.out.other _ _⟩⟩
   case true =>
    by_cases h12:r.si.length=12
    case pos =>
     have HG3:Hid (putD r r.sy.length ({ depth:=(d:Int),kind:=nk,name:=nm,num:=nu,op:=no,pos:=np }:Nd)=(46,r)):=by
      unfold Hid;rw [HG2.out,hT];simp [h12]
     clear HG2
     go_wp2_with fail
     refine (ze0 ({ depth:=(d:Int),kind:=nk,name:=nm,num:=nu,op:=no,pos:=np }:Nd) hT _).mono ?_
     rintro e w4 ⟨rfl,hb4⟩
     have HC4:Hid (NdC w4 w.heap.size ({ depth:=(d:Int),kind:=nk,name:=nm,num:=nu,op:=no,pos:=np }:Nd)):=HC3.out.below hb4
     have HR4:Hid (RestIs w4 b r):=HR3.out.below lt3 hb4
     have HN4:Hid (NamesIs w4 b sc1 ar1):=HN3.out.below hb4
     have HS4:Hid (Beside b w w4):=HS3.out.trans (Beside.of hb4)
     have lt4:b<w4.heap.size:=Nat.lt_of_lt_of_le lt3 hb4.size
     clear q0 q1 q2 q3 q4 q5
     obtain ⟨z4,q0,q1,q2,q3,q4,q5⟩:=HC4.out
     simp only at q0 q1 q2 q3 q4 q5
     have f4:=HR4.out.found
     rw [h12] at f4
     go_wp2_with fail
     go_ret
     rw [HG3.out]
     exact ⟨rfl,HS4.out,fun h0=>absurd h0 (by simp)⟩
    case neg =>
     have hfl:r.si.length<12:=by have:=HR3.out.sites;omega
     have hf1:(r.si.length:Int)<12:=by omega
     have hf2:((r.si.length:Int)==12)=false:=by rw [beq_eq_false_iff_ne];omega
     have HG3:Hid (putD r r.sy.length ({ depth:=(d:Int),kind:=nk,name:=nm,num:=nu,op:=no,pos:=np }:Nd)=(0,⟨sc1,ar1,r.sy++[sy],r.so++[(r.si.length:Int)],r.si++[r.sy.length],fun x=>if x=d then wantD ({ depth:=(d:Int),kind:=nk,name:=nm,num:=nu,op:=no,pos:=np }:Nd) else r.nu x⟩)):=by
      unfold Hid;rw [HG2.out,hT];simp [h12]
     clear HG2 h12
     go_wp2_with fail
     refine (ze0 ({ depth:=(d:Int),kind:=nk,name:=nm,num:=nu,op:=no,pos:=np }:Nd) hT _).mono ?_
     rintro e w4 ⟨rfl,hb4⟩
     have HC4:Hid (NdC w4 w.heap.size ({ depth:=(d:Int),kind:=nk,name:=nm,num:=nu,op:=no,pos:=np }:Nd)):=HC3.out.below hb4
     have HR4:Hid (RestIs w4 b r):=HR3.out.below lt3 hb4
     have HN4:Hid (NamesIs w4 b sc1 ar1):=HN3.out.below hb4
     have HS4:Hid (Beside b w w4):=HS3.out.trans (Beside.of hb4)
     have lt4:b<w4.heap.size:=Nat.lt_of_lt_of_le lt3 hb4.size
     clear q0 q1 q2 q3 q4 q5
     obtain ⟨z4,q0,q1,q2,q3,q4,q5⟩:=HC4.out
     simp only at q0 q1 q2 q3 q4 q5
     have f4:=HR4.out.found
     go_wp2_with fail
     obtain ⟨wv,hwv⟩:∃ v,wantD ({ depth:=(d:Int),kind:=nk,name:=nm,num:=nu,op:=no,pos:=np }:Nd)=v:=⟨_,rfl⟩
     have HWV:Hid _:=hwv
     have hu4:=HR4.out.nu d (by omega)
     have wf4:=HN4.out.warm
     have hg1:¬w.heap.size=b:=hgb
     have hg2:¬b=w.heap.size:=fun e=>hgb e.symm
     go_region_held3 (fun w'=>w'.cell? ⟨w.heap.size,0,none⟩=some (.int .i64 d)∧w'.cell? ⟨w.heap.size,1,none⟩=some (.int .i64 nk)∧w'.cell? ⟨w.heap.size,2,none⟩=some (.string nm)∧w'.cell? ⟨w.heap.size,3,none⟩=some (.int .i64 nu)∧w'.cell? ⟨w.heap.size,4,none⟩=some (.int .i64 no)∧w'.cell? ⟨w.heap.size,5,none⟩=some (.int .i64 np)) (go_keep)
      (first
      | (go_at_call 97;refine (zl2 ({ depth:=(d:Int),kind:=nk,name:=nm,num:=nu,op:=no,pos:=np }:Nd) HWV.out _).mono ?_;rintro e w5 ⟨rfl,hb5⟩;have HC5:Hid (NdC w5 w.heap.size ({ depth:=(d:Int),kind:=nk,name:=nm,num:=nu,op:=no,pos:=np }:Nd)):=(HC4.out.below (Below.refl _ _).drew).below hb5;obtain ⟨z5,s0,s1,s2,s3,s4,s5⟩:=HC5.out;simp only at s0 s1 s2 s3 s4 s5;have HR5:Hid (RestIs w5 b r):=(HR4.out.below lt4 (Below.refl _ _).drew).below lt4 hb5;have HN5:Hid (NamesIs w5 b sc1 ar1):=(HN4.out.below (Below.refl _ _).drew).below hb5;have HS5:Hid (Beside b w w5):=HS4.out.drew.trans (Beside.of hb5);have hu5:=HR5.out.nu d (by omega);have wf5:=HN5.out.warm)
      | fail)
     have HR6:Hid (RestIs (w5.setCell ⟨b,629+d,none⟩ (.bool wv)) b { r with nu:=fun x=>if x=d then wv else r.nu x }):=HR5.out.nu_set (by omega) wv
     have HN6:Hid (NamesIs (w5.setCell ⟨b,629+d,none⟩ (.bool wv)) b sc1 ar1):=HN5.out.hi (by omega) hu5 _
     have HJ6:Hid (Beside b w (w5.setCell ⟨b,629+d,none⟩ (.bool wv))):=HS5.out.set _ _
     have HC6:Hid (NdC (w5.setCell ⟨b,629+d,none⟩ (.bool wv)) w.heap.size ({ depth:=(d:Int),kind:=nk,name:=nm,num:=nu,op:=no,pos:=np }:Nd)):=HC5.out.beside hgb (Beside.set (Beside.of (Below.refl _ _)) _ _)
     clear q0 q1 q2 q3 q4 q5 s0 s1 s2 s3 s4 s5 hu4 hu5 wf4 wf5 f4 hwv z5
     obtain ⟨w6,hw6⟩:∃ w6,w6=w5.setCell ⟨b,629+d,none⟩ (.bool wv):=⟨_,rfl⟩
     rw [←hw6] at HR6 HN6 HJ6 HC6
     rw [←hw6]
     try clear hHeld
     clear hw6
     obtain ⟨v16,m16⟩:=HR6.out.room (16+r.sy.length) (by omega) (by omega)
     obtain ⟨v316,m316⟩:=HR6.out.room (316+r.sy.length) (by omega) (by omega)
     have wf6:=HN6.out.warm
     have hl3:(r.sy.length:Int)<300:=by omega
     have hx1:¬316+r.sy.length=16+r.sy.length:=by omega
     obtain ⟨z6,s0,s1,s2,s3,s4,s5⟩:=HC6.out
     simp only at s0 s1 s2 s3 s4 s5
     go_wp2_with fail
     have HR7:Hid (RestIs ((w6.setCell ⟨b,16+r.sy.length,none⟩ (.int .i64 sy)).setCell ⟨b,316+r.sy.length,none⟩ (.int .i64 (-1))) b { r with sy:=r.sy++[sy],so:=r.so++[-1],nu:=fun x=>if x=d then wv else r.nu x }):=HR6.out.push h3 sy (-1)
     have HN7:Hid (NamesIs ((w6.setCell ⟨b,16+r.sy.length,none⟩ (.int .i64 sy)).setCell ⟨b,316+r.sy.length,none⟩ (.int .i64 (-1))) b sc1 ar1):=by
      obtain ⟨v1,r1⟩:=zd9 (v:=.int .i64 sy) m16 HR6.out.room (316+r.sy.length) (by omega) (by omega)
      exact (HN6.out.hi (by omega) m16 _).hi (by omega) r1 _
     have HJ7:Hid (Beside b w ((w6.setCell ⟨b,16+r.sy.length,none⟩ (.int .i64 sy)).setCell ⟨b,316+r.sy.length,none⟩ (.int .i64 (-1)))):=(HJ6.out.set _ _).set _ _
     obtain ⟨w7,hw7⟩:∃ w7,w7=(w6.setCell ⟨b,16+r.sy.length,none⟩ (.int .i64 sy)).setCell ⟨b,316+r.sy.length,none⟩ (.int .i64 (-1)):=⟨_,rfl⟩
     rw [←hw7] at HR7 HN7 HJ7
     rw [←hw7]
     clear hw7 m16 m316 wf6 s0 s1 s2 s3 s4 s5 z6
     refine (ze0 ({ depth:=(d:Int),kind:=nk,name:=nm,num:=nu,op:=no,pos:=np }:Nd) hT _).mono ?_
     rintro e w8 ⟨rfl,hb8⟩
     have HR8:Hid _:=HR7.out.below HN7.out.lt hb8
     have HN8:Hid (NamesIs w8 b sc1 ar1):=HN7.out.below hb8
     have HS8:Hid (Beside b w w8):=HJ7.out.trans (Beside.of hb8)
     have f8:=HR8.out.found
     obtain ⟨v1,m1⟩:=HR8.out.room (316+r.sy.length) (by omega) (by omega)
     obtain ⟨v2,m2⟩:=HR8.out.room (616+r.si.length) (by omega) (by omega)
     have hz1:¬628=316+r.sy.length:=by omega
     have hz2:¬616+r.si.length=316+r.sy.length:=by omega
     have hz3:¬628=616+r.si.length:=by omega
     have wf8:=HN8.out.warm
     have HL:Hid (r.so.length=r.sy.length):=HR3.out.len
     have HW:Hid _:=HR8.out.site rfl r.sy.length hfl
     have HW2:Hid _:=HR8.out.site_names HN8.out rfl r.sy.length hfl
     unfold Hid at HW HW2
     simp only [HL.out] at HW HW2
     have HV:Hid _:=HW
     have HV2:Hid _:=HW2
     clear HW HW2
     go_wp2_with fail
     go_region
     go_wp2_with fail
     go_region
     go_wp2_with fail
     go_ret
     rw [HG3.out]
     exact ⟨rfl,Beside.drew (Beside.drew (((HS8.out.set _ _).set _ _).set _ _)),fun _=>⟨HV2.out.below ((Below.refl _ _).drew.drew),by rw [HWV.out];exact ((HV.out.other _ _).below (by simpa using HN8.out.lt) ((Below.refl _ _).drew.drew))⟩⟩
  case false.true =>
   have HG2:Hid (putD r r.sy.length ({ depth:=(d:Int),kind:=nk,name:=nm,num:=nu,op:=no,pos:=np }:Nd)=(42,r)):=by
    unfold Hid;rw [HG.out,hX,hM,hV];simp
   clear HG
   go_wp2_with fail
   go_region_held3 (fun w'=>w'.cell? ⟨w.heap.size,0,none⟩=some (.int .i64 d)∧w'.cell? ⟨w.heap.size,1,none⟩=some (.int .i64 nk)∧w'.cell? ⟨w.heap.size,2,none⟩=some (.string nm)∧w'.cell? ⟨w.heap.size,3,none⟩=some (.int .i64 nu)∧w'.cell? ⟨w.heap.size,4,none⟩=some (.int .i64 no)∧w'.cell? ⟨w.heap.size,5,none⟩=some (.int .i64 np)∧w'.cell? ⟨b,629+y,none⟩=some (.bool true)) (go_keep)
    (first
    | (go_at_call 94;refine (zm8 ({ depth:=(d:Int),kind:=nk,name:=nm,num:=nu,op:=no,pos:=np }:Nd) hX _).mono ?_;rintro e w2 ⟨rfl,hb2⟩;have HC2:Hid (NdC w2 w.heap.size ({ depth:=(d:Int),kind:=nk,name:=nm,num:=nu,op:=no,pos:=np }:Nd)):=(HC1.out.below (Below.refl _ _).drew).below hb2;obtain ⟨z2,p0,p1,p2,p3,p4,p5⟩:=HC2.out;simp only at p0 p1 p2 p3 p4 p5;have HR2:Hid (RestIs w2 b r):=(HR1.out.below lt1 (Below.refl _ _).drew).below lt1 hb2;have HN2:Hid (NamesIs w2 b sc1 ar1):=(HN1.out.below (Below.refl _ _).drew).below hb2;have HS2:Hid (Beside b w w2):=HS1.out.drew.trans (Beside.of hb2);have cn2:=HR2.out.nu y hq3;rw [hV] at cn2;have lt2:b<w2.heap.size:=Nat.lt_of_lt_of_le lt1 hb2.size)
    | (go_at_call 95;refine (zl1 ({ depth:=(d:Int),kind:=nk,name:=nm,num:=nu,op:=no,pos:=np }:Nd) hM _).mono ?_;rintro e w3 ⟨rfl,hb3⟩;have HC3:Hid (NdC w3 w.heap.size ({ depth:=(d:Int),kind:=nk,name:=nm,num:=nu,op:=no,pos:=np }:Nd)):=HC2.out.below hb3;obtain ⟨z3,q0,q1,q2,q3,q4,q5⟩:=HC3.out;simp only at q0 q1 q2 q3 q4 q5;have HR3:Hid (RestIs w3 b r):=HR2.out.below lt2 hb3;have HN3:Hid (NamesIs w3 b sc1 ar1):=HN2.out.below hb3;have HS3:Hid (Beside b w w3):=HS2.out.trans (Beside.of hb3);have cn3:=HR3.out.nu y hq3;rw [hV] at cn3;have lt3:b<w3.heap.size:=Nat.lt_of_lt_of_le lt2 hb3.size))
   clear c0 c1 c2 c3 c4 c5 p0 p1 p2 p3 p4 p5 cn cn2 cn3
   go_wp2_with fail
   go_ret
   rw [HG2.out]
   exact ⟨rfl,HS3.out,fun h0=>absurd h0 (by simp)⟩
  case true.false =>
   have HG2:Hid (putD r r.sy.length ({ depth:=(d:Int),kind:=nk,name:=nm,num:=nu,op:=no,pos:=np }:Nd)=(42,r)):=by
    unfold Hid;rw [HG.out,hX,hM,hV];simp
   clear HG
   go_wp2_with fail
   go_region_held3 (fun w'=>w'.cell? ⟨w.heap.size,0,none⟩=some (.int .i64 d)∧w'.cell? ⟨w.heap.size,1,none⟩=some (.int .i64 nk)∧w'.cell? ⟨w.heap.size,2,none⟩=some (.string nm)∧w'.cell? ⟨w.heap.size,3,none⟩=some (.int .i64 nu)∧w'.cell? ⟨w.heap.size,4,none⟩=some (.int .i64 no)∧w'.cell? ⟨w.heap.size,5,none⟩=some (.int .i64 np)∧w'.cell? ⟨b,629+y,none⟩=some (.bool false)) (go_keep)
    (first
    | (go_at_call 94;refine (zm8 ({ depth:=(d:Int),kind:=nk,name:=nm,num:=nu,op:=no,pos:=np }:Nd) hX _).mono ?_;rintro e w2 ⟨rfl,hb2⟩;have HC2:Hid (NdC w2 w.heap.size ({ depth:=(d:Int),kind:=nk,name:=nm,num:=nu,op:=no,pos:=np }:Nd)):=(HC1.out.below (Below.refl _ _).drew).below hb2;obtain ⟨z2,p0,p1,p2,p3,p4,p5⟩:=HC2.out;simp only at p0 p1 p2 p3 p4 p5;have HR2:Hid (RestIs w2 b r):=(HR1.out.below lt1 (Below.refl _ _).drew).below lt1 hb2;have HN2:Hid (NamesIs w2 b sc1 ar1):=(HN1.out.below (Below.refl _ _).drew).below hb2;have HS2:Hid (Beside b w w2):=HS1.out.drew.trans (Beside.of hb2);have cn2:=HR2.out.nu y hq3;rw [hV] at cn2;have lt2:b<w2.heap.size:=Nat.lt_of_lt_of_le lt1 hb2.size)
    | (go_at_call 95;refine (zl1 ({ depth:=(d:Int),kind:=nk,name:=nm,num:=nu,op:=no,pos:=np }:Nd) hM _).mono ?_;rintro e w3 ⟨rfl,hb3⟩;have HC3:Hid (NdC w3 w.heap.size ({ depth:=(d:Int),kind:=nk,name:=nm,num:=nu,op:=no,pos:=np }:Nd)):=HC2.out.below hb3;obtain ⟨z3,q0,q1,q2,q3,q4,q5⟩:=HC3.out;simp only at q0 q1 q2 q3 q4 q5;have HR3:Hid (RestIs w3 b r):=HR2.out.below lt2 hb3;have HN3:Hid (NamesIs w3 b sc1 ar1):=HN2.out.below hb3;have HS3:Hid (Beside b w w3):=HS2.out.trans (Beside.of hb3);have cn3:=HR3.out.nu y hq3;rw [hV] at cn3;have lt3:b<w3.heap.size:=Nat.lt_of_lt_of_le lt2 hb3.size))
   clear c0 c1 c2 c3 c4 c5 p0 p1 p2 p3 p4 p5 cn cn2 cn3
   go_wp2_with fail
   go_ret
   rw [HG2.out]
   exact ⟨rfl,HS3.out,fun h0=>absurd h0 (by simp)⟩
  case true.true =>
   have HG2:Hid (putD r r.sy.length ({ depth:=(d:Int),kind:=nk,name:=nm,num:=nu,op:=no,pos:=np }:Nd)=if siteD ({ depth:=(d:Int),kind:=nk,name:=nm,num:=nu,op:=no,pos:=np }:Nd)&&r.si.length==12 then (46,r) else (0,⟨sc1,ar1,r.sy++[sy],r.so++[if siteD ({ depth:=(d:Int),kind:=nk,name:=nm,num:=nu,op:=no,pos:=np }:Nd) then (r.si.length:Int) else -1],if siteD ({ depth:=(d:Int),kind:=nk,name:=nm,num:=nu,op:=no,pos:=np }:Nd) then r.si++[r.sy.length] else r.si,fun x=>if x=d then wantD ({ depth:=(d:Int),kind:=nk,name:=nm,num:=nu,op:=no,pos:=np }:Nd) else r.nu x⟩)):=by
    unfold Hid;rw [HG.out,hX,hM,hV];simp
   clear HG
   go_wp2_with fail
   go_region_held3 (fun w'=>w'.cell? ⟨w.heap.size,0,none⟩=some (.int .i64 d)∧w'.cell? ⟨w.heap.size,1,none⟩=some (.int .i64 nk)∧w'.cell? ⟨w.heap.size,2,none⟩=some (.string nm)∧w'.cell? ⟨w.heap.size,3,none⟩=some (.int .i64 nu)∧w'.cell? ⟨w.heap.size,4,none⟩=some (.int .i64 no)∧w'.cell? ⟨w.heap.size,5,none⟩=some (.int .i64 np)∧w'.cell? ⟨b,629+y,none⟩=some (.bool true)) (go_keep)
    (first
    | (go_at_call 94;refine (zm8 ({ depth:=(d:Int),kind:=nk,name:=nm,num:=nu,op:=no,pos:=np }:Nd) hX _).mono ?_;rintro e w2 ⟨rfl,hb2⟩;have HC2:Hid (NdC w2 w.heap.size ({ depth:=(d:Int),kind:=nk,name:=nm,num:=nu,op:=no,pos:=np }:Nd)):=(HC1.out.below (Below.refl _ _).drew).below hb2;obtain ⟨z2,p0,p1,p2,p3,p4,p5⟩:=HC2.out;simp only at p0 p1 p2 p3 p4 p5;have HR2:Hid (RestIs w2 b r):=(HR1.out.below lt1 (Below.refl _ _).drew).below lt1 hb2;have HN2:Hid (NamesIs w2 b sc1 ar1):=(HN1.out.below (Below.refl _ _).drew).below hb2;have HS2:Hid (Beside b w w2):=HS1.out.drew.trans (Beside.of hb2);have cn2:=HR2.out.nu y hq3;rw [hV] at cn2;have lt2:b<w2.heap.size:=Nat.lt_of_lt_of_le lt1 hb2.size)
    | (go_at_call 95;refine (zl1 ({ depth:=(d:Int),kind:=nk,name:=nm,num:=nu,op:=no,pos:=np }:Nd) hM _).mono ?_;rintro e w3 ⟨rfl,hb3⟩;have HC3:Hid (NdC w3 w.heap.size ({ depth:=(d:Int),kind:=nk,name:=nm,num:=nu,op:=no,pos:=np }:Nd)):=HC2.out.below hb3;obtain ⟨z3,q0,q1,q2,q3,q4,q5⟩:=HC3.out;simp only at q0 q1 q2 q3 q4 q5;have HR3:Hid (RestIs w3 b r):=HR2.out.below lt2 hb3;have HN3:Hid (NamesIs w3 b sc1 ar1):=HN2.out.below hb3;have HS3:Hid (Beside b w w3):=HS2.out.trans (Beside.of hb3);have cn3:=HR3.out.nu y hq3;rw [hV] at cn3;have lt3:b<w3.heap.size:=Nat.lt_of_lt_of_le lt2 hb3.size))
   clear c0 c1 c2 c3 c4 c5 p0 p1 p2 p3 p4 p5 cn cn2 cn3
   cases hT:siteD ({ depth:=(d:Int),kind:=nk,name:=nm,num:=nu,op:=no,pos:=np }:Nd)
   case false =>
    have HG3:Hid (putD r r.sy.length ({ depth:=(d:Int),kind:=nk,name:=nm,num:=nu,op:=no,pos:=np }:Nd)=(0,⟨sc1,ar1,r.sy++[sy],r.so++[-1],r.si,fun x=>if x=d then wantD ({ depth:=(d:Int),kind:=nk,name:=nm,num:=nu,op:=no,pos:=np }:Nd) else r.nu x⟩)):=by
     unfold Hid;rw [HG2.out,hT];simp
    clear HG2
    go_wp2_with fail
    refine (ze0 ({ depth:=(d:Int),kind:=nk,name:=nm,num:=nu,op:=no,pos:=np }:Nd) hT _).mono ?_
    rintro e w4 ⟨rfl,hb4⟩
    have HC4:Hid (NdC w4 w.heap.size ({ depth:=(d:Int),kind:=nk,name:=nm,num:=nu,op:=no,pos:=np }:Nd)):=HC3.out.below hb4
    have HR4:Hid (RestIs w4 b r):=HR3.out.below lt3 hb4
    have HN4:Hid (NamesIs w4 b sc1 ar1):=HN3.out.below hb4
    have HS4:Hid (Beside b w w4):=HS3.out.trans (Beside.of hb4)
    have lt4:b<w4.heap.size:=Nat.lt_of_lt_of_le lt3 hb4.size
    clear q0 q1 q2 q3 q4 q5
    obtain ⟨z4,q0,q1,q2,q3,q4,q5⟩:=HC4.out
    simp only at q0 q1 q2 q3 q4 q5
    have f4:=HR4.out.found
    go_wp2_with fail
    obtain ⟨wv,hwv⟩:∃ v,wantD ({ depth:=(d:Int),kind:=nk,name:=nm,num:=nu,op:=no,pos:=np }:Nd)=v:=⟨_,rfl⟩
    have HWV:Hid _:=hwv
    have hu4:=HR4.out.nu d (by omega)
    have wf4:=HN4.out.warm
    have hg1:¬w.heap.size=b:=hgb
    have hg2:¬b=w.heap.size:=fun e=>hgb e.symm
    go_region_held3 (fun w'=>w'.cell? ⟨w.heap.size,0,none⟩=some (.int .i64 d)∧w'.cell? ⟨w.heap.size,1,none⟩=some (.int .i64 nk)∧w'.cell? ⟨w.heap.size,2,none⟩=some (.string nm)∧w'.cell? ⟨w.heap.size,3,none⟩=some (.int .i64 nu)∧w'.cell? ⟨w.heap.size,4,none⟩=some (.int .i64 no)∧w'.cell? ⟨w.heap.size,5,none⟩=some (.int .i64 np)) (go_keep)
     (first
     | (go_at_call 97;refine (zl2 ({ depth:=(d:Int),kind:=nk,name:=nm,num:=nu,op:=no,pos:=np }:Nd) HWV.out _).mono ?_;rintro e w5 ⟨rfl,hb5⟩;have HC5:Hid (NdC w5 w.heap.size ({ depth:=(d:Int),kind:=nk,name:=nm,num:=nu,op:=no,pos:=np }:Nd)):=(HC4.out.below (Below.refl _ _).drew).below hb5;obtain ⟨z5,s0,s1,s2,s3,s4,s5⟩:=HC5.out;simp only at s0 s1 s2 s3 s4 s5;have HR5:Hid (RestIs w5 b r):=(HR4.out.below lt4 (Below.refl _ _).drew).below lt4 hb5;have HN5:Hid (NamesIs w5 b sc1 ar1):=(HN4.out.below (Below.refl _ _).drew).below hb5;have HS5:Hid (Beside b w w5):=HS4.out.drew.trans (Beside.of hb5);have hu5:=HR5.out.nu d (by omega);have wf5:=HN5.out.warm)
     | fail)
    have HR6:Hid (RestIs (w5.setCell ⟨b,629+d,none⟩ (.bool wv)) b { r with nu:=fun x=>if x=d then wv else r.nu x }):=HR5.out.nu_set (by omega) wv
    have HN6:Hid (NamesIs (w5.setCell ⟨b,629+d,none⟩ (.bool wv)) b sc1 ar1):=HN5.out.hi (by omega) hu5 _
    have HJ6:Hid (Beside b w (w5.setCell ⟨b,629+d,none⟩ (.bool wv))):=HS5.out.set _ _
    have HC6:Hid (NdC (w5.setCell ⟨b,629+d,none⟩ (.bool wv)) w.heap.size ({ depth:=(d:Int),kind:=nk,name:=nm,num:=nu,op:=no,pos:=np }:Nd)):=HC5.out.beside hgb (Beside.set (Beside.of (Below.refl _ _)) _ _)
    clear q0 q1 q2 q3 q4 q5 s0 s1 s2 s3 s4 s5 hu4 hu5 wf4 wf5 f4 hwv z5
    obtain ⟨w6,hw6⟩:∃ w6,w6=w5.setCell ⟨b,629+d,none⟩ (.bool wv):=⟨_,rfl⟩
    rw [←hw6] at HR6 HN6 HJ6 HC6
    rw [←hw6]
    try clear hHeld
    clear hw6
    obtain ⟨v16,m16⟩:=HR6.out.room (16+r.sy.length) (by omega) (by omega)
    obtain ⟨v316,m316⟩:=HR6.out.room (316+r.sy.length) (by omega) (by omega)
    have wf6:=HN6.out.warm
    have hl3:(r.sy.length:Int)<300:=by omega
    have hx1:¬316+r.sy.length=16+r.sy.length:=by omega
    obtain ⟨z6,s0,s1,s2,s3,s4,s5⟩:=HC6.out
    simp only at s0 s1 s2 s3 s4 s5
    go_wp2_with fail
    have HR7:Hid (RestIs ((w6.setCell ⟨b,16+r.sy.length,none⟩ (.int .i64 sy)).setCell ⟨b,316+r.sy.length,none⟩ (.int .i64 (-1))) b { r with sy:=r.sy++[sy],so:=r.so++[-1],nu:=fun x=>if x=d then wv else r.nu x }):=HR6.out.push h3 sy (-1)
    have HN7:Hid (NamesIs ((w6.setCell ⟨b,16+r.sy.length,none⟩ (.int .i64 sy)).setCell ⟨b,316+r.sy.length,none⟩ (.int .i64 (-1))) b sc1 ar1):=by
     obtain ⟨v1,r1⟩:=zd9 (v:=.int .i64 sy) m16 HR6.out.room (316+r.sy.length) (by omega) (by omega)
     exact (HN6.out.hi (by omega) m16 _).hi (by omega) r1 _
    have HJ7:Hid (Beside b w ((w6.setCell ⟨b,16+r.sy.length,none⟩ (.int .i64 sy)).setCell ⟨b,316+r.sy.length,none⟩ (.int .i64 (-1)))):=(HJ6.out.set _ _).set _ _
    obtain ⟨w7,hw7⟩:∃ w7,w7=(w6.setCell ⟨b,16+r.sy.length,none⟩ (.int .i64 sy)).setCell ⟨b,316+r.sy.length,none⟩ (.int .i64 (-1)):=⟨_,rfl⟩
    rw [←hw7] at HR7 HN7 HJ7
    rw [←hw7]
    clear hw7 m16 m316 wf6 s0 s1 s2 s3 s4 s5 z6
    refine (ze0 ({ depth:=(d:Int),kind:=nk,name:=nm,num:=nu,op:=no,pos:=np }:Nd) hT _).mono ?_
    rintro e w8 ⟨rfl,hb8⟩
    have HR8:Hid _:=HR7.out.below HN7.out.lt hb8
    have HN8:Hid (NamesIs w8 b sc1 ar1):=HN7.out.below hb8
    have HS8:Hid (Beside b w w8):=HJ7.out.trans (Beside.of hb8)
    go_wp2_with fail
    go_ret
    rw [HG3.out]
    exact ⟨rfl,HS8.out,fun _=>⟨HN8.out,by rw [HWV.out];exact HR8.out.other _ _⟩⟩
   case true =>
    by_cases h12:r.si.length=12
    case pos =>
     have HG3:Hid (putD r r.sy.length ({ depth:=(d:Int),kind:=nk,name:=nm,num:=nu,op:=no,pos:=np }:Nd)=(46,r)):=by
      unfold Hid;rw [HG2.out,hT];simp [h12]
     clear HG2
     go_wp2_with fail
     refine (ze0 ({ depth:=(d:Int),kind:=nk,name:=nm,num:=nu,op:=no,pos:=np }:Nd) hT _).mono ?_
     rintro e w4 ⟨rfl,hb4⟩
     have HC4:Hid (NdC w4 w.heap.size ({ depth:=(d:Int),kind:=nk,name:=nm,num:=nu,op:=no,pos:=np }:Nd)):=HC3.out.below hb4
     have HR4:Hid (RestIs w4 b r):=HR3.out.below lt3 hb4
     have HN4:Hid (NamesIs w4 b sc1 ar1):=HN3.out.below hb4
     have HS4:Hid (Beside b w w4):=HS3.out.trans (Beside.of hb4)
     have lt4:b<w4.heap.size:=Nat.lt_of_lt_of_le lt3 hb4.size
     clear q0 q1 q2 q3 q4 q5
     obtain ⟨z4,q0,q1,q2,q3,q4,q5⟩:=HC4.out
     simp only at q0 q1 q2 q3 q4 q5
     have f4:=HR4.out.found
     rw [h12] at f4
     go_wp2_with fail
     go_ret
     rw [HG3.out]
     exact ⟨rfl,HS4.out,fun h0=>absurd h0 (by simp)⟩
    case neg =>
     have hfl:r.si.length<12:=by have:=HR3.out.sites;omega
     have hf1:(r.si.length:Int)<12:=by omega
     have hf2:((r.si.length:Int)==12)=false:=by rw [beq_eq_false_iff_ne];omega
     have HG3:Hid (putD r r.sy.length ({ depth:=(d:Int),kind:=nk,name:=nm,num:=nu,op:=no,pos:=np }:Nd)=(0,⟨sc1,ar1,r.sy++[sy],r.so++[(r.si.length:Int)],r.si++[r.sy.length],fun x=>if x=d then wantD ({ depth:=(d:Int),kind:=nk,name:=nm,num:=nu,op:=no,pos:=np }:Nd) else r.nu x⟩)):=by
      unfold Hid;rw [HG2.out,hT];simp [h12]
     clear HG2 h12
     go_wp2_with fail
     refine (ze0 ({ depth:=(d:Int),kind:=nk,name:=nm,num:=nu,op:=no,pos:=np }:Nd) hT _).mono ?_
     rintro e w4 ⟨rfl,hb4⟩
     have HC4:Hid (NdC w4 w.heap.size ({ depth:=(d:Int),kind:=nk,name:=nm,num:=nu,op:=no,pos:=np }:Nd)):=HC3.out.below hb4
     have HR4:Hid (RestIs w4 b r):=HR3.out.below lt3 hb4
     have HN4:Hid (NamesIs w4 b sc1 ar1):=HN3.out.below hb4
     have HS4:Hid (Beside b w w4):=HS3.out.trans (Beside.of hb4)
     have lt4:b<w4.heap.size:=Nat.lt_of_lt_of_le lt3 hb4.size
     clear q0 q1 q2 q3 q4 q5
     obtain ⟨z4,q0,q1,q2,q3,q4,q5⟩:=HC4.out
     simp only at q0 q1 q2 q3 q4 q5
     have f4:=HR4.out.found
     go_wp2_with fail
     obtain ⟨wv,hwv⟩:∃ v,wantD ({ depth:=(d:Int),kind:=nk,name:=nm,num:=nu,op:=no,pos:=np }:Nd)=v:=⟨_,rfl⟩
     have HWV:Hid _:=hwv
     have hu4:=HR4.out.nu d (by omega)
     have wf4:=HN4.out.warm
     have hg1:¬w.heap.size=b:=hgb
     have hg2:¬b=w.heap.size:=fun e=>hgb e.symm
     go_region_held3 (fun w'=>w'.cell? ⟨w.heap.size,0,none⟩=some (.int .i64 d)∧w'.cell? ⟨w.heap.size,1,none⟩=some (.int .i64 nk)∧w'.cell? ⟨w.heap.size,2,none⟩=some (.string nm)∧w'.cell? ⟨w.heap.size,3,none⟩=some (.int .i64 nu)∧w'.cell? ⟨w.heap.size,4,none⟩=some (.int .i64 no)∧w'.cell? ⟨w.heap.size,5,none⟩=some (.int .i64 np)) (go_keep)
      (first
      | (go_at_call 97;refine (zl2 ({ depth:=(d:Int),kind:=nk,name:=nm,num:=nu,op:=no,pos:=np }:Nd) HWV.out _).mono ?_;rintro e w5 ⟨rfl,hb5⟩;have HC5:Hid (NdC w5 w.heap.size ({ depth:=(d:Int),kind:=nk,name:=nm,num:=nu,op:=no,pos:=np }:Nd)):=(HC4.out.below (Below.refl _ _).drew).below hb5;obtain ⟨z5,s0,s1,s2,s3,s4,s5⟩:=HC5.out;simp only at s0 s1 s2 s3 s4 s5;have HR5:Hid (RestIs w5 b r):=(HR4.out.below lt4 (Below.refl _ _).drew).below lt4 hb5;have HN5:Hid (NamesIs w5 b sc1 ar1):=(HN4.out.below (Below.refl _ _).drew).below hb5;have HS5:Hid (Beside b w w5):=HS4.out.drew.trans (Beside.of hb5);have hu5:=HR5.out.nu d (by omega);have wf5:=HN5.out.warm)
      | fail)
     have HR6:Hid (RestIs (w5.setCell ⟨b,629+d,none⟩ (.bool wv)) b { r with nu:=fun x=>if x=d then wv else r.nu x }):=HR5.out.nu_set (by omega) wv
     have HN6:Hid (NamesIs (w5.setCell ⟨b,629+d,none⟩ (.bool wv)) b sc1 ar1):=HN5.out.hi (by omega) hu5 _
     have HJ6:Hid (Beside b w (w5.setCell ⟨b,629+d,none⟩ (.bool wv))):=HS5.out.set _ _
     have HC6:Hid (NdC (w5.setCell ⟨b,629+d,none⟩ (.bool wv)) w.heap.size ({ depth:=(d:Int),kind:=nk,name:=nm,num:=nu,op:=no,pos:=np }:Nd)):=HC5.out.beside hgb (Beside.set (Beside.of (Below.refl _ _)) _ _)
     clear q0 q1 q2 q3 q4 q5 s0 s1 s2 s3 s4 s5 hu4 hu5 wf4 wf5 f4 hwv z5
     obtain ⟨w6,hw6⟩:∃ w6,w6=w5.setCell ⟨b,629+d,none⟩ (.bool wv):=⟨_,rfl⟩
     rw [←hw6] at HR6 HN6 HJ6 HC6
     rw [←hw6]
     try clear hHeld
     clear hw6
     obtain ⟨v16,m16⟩:=HR6.out.room (16+r.sy.length) (by omega) (by omega)
     obtain ⟨v316,m316⟩:=HR6.out.room (316+r.sy.length) (by omega) (by omega)
     have wf6:=HN6.out.warm
     have hl3:(r.sy.length:Int)<300:=by omega
     have hx1:¬316+r.sy.length=16+r.sy.length:=by omega
     obtain ⟨z6,s0,s1,s2,s3,s4,s5⟩:=HC6.out
     simp only at s0 s1 s2 s3 s4 s5
     go_wp2_with fail
     have HR7:Hid (RestIs ((w6.setCell ⟨b,16+r.sy.length,none⟩ (.int .i64 sy)).setCell ⟨b,316+r.sy.length,none⟩ (.int .i64 (-1))) b { r with sy:=r.sy++[sy],so:=r.so++[-1],nu:=fun x=>if x=d then wv else r.nu x }):=HR6.out.push h3 sy (-1)
     have HN7:Hid (NamesIs ((w6.setCell ⟨b,16+r.sy.length,none⟩ (.int .i64 sy)).setCell ⟨b,316+r.sy.length,none⟩ (.int .i64 (-1))) b sc1 ar1):=by
      obtain ⟨v1,r1⟩:=zd9 (v:=.int .i64 sy) m16 HR6.out.room (316+r.sy.length) (by omega) (by omega)
      exact (HN6.out.hi (by omega) m16 _).hi (by omega) r1 _
     have HJ7:Hid (Beside b w ((w6.setCell ⟨b,16+r.sy.length,none⟩ (.int .i64 sy)).setCell ⟨b,316+r.sy.length,none⟩ (.int .i64 (-1)))):=(HJ6.out.set _ _).set _ _
     obtain ⟨w7,hw7⟩:∃ w7,w7=(w6.setCell ⟨b,16+r.sy.length,none⟩ (.int .i64 sy)).setCell ⟨b,316+r.sy.length,none⟩ (.int .i64 (-1)):=⟨_,rfl⟩
     rw [←hw7] at HR7 HN7 HJ7
     rw [←hw7]
     clear hw7 m16 m316 wf6 s0 s1 s2 s3 s4 s5 z6
     refine (ze0 ({ depth:=(d:Int),kind:=nk,name:=nm,num:=nu,op:=no,pos:=np }:Nd) hT _).mono ?_
     rintro e w8 ⟨rfl,hb8⟩
     have HR8:Hid _:=HR7.out.below HN7.out.lt hb8
     have HN8:Hid (NamesIs w8 b sc1 ar1):=HN7.out.below hb8
     have HS8:Hid (Beside b w w8):=HJ7.out.trans (Beside.of hb8)
     have f8:=HR8.out.found
     obtain ⟨v1,m1⟩:=HR8.out.room (316+r.sy.length) (by omega) (by omega)
     obtain ⟨v2,m2⟩:=HR8.out.room (616+r.si.length) (by omega) (by omega)
     have hz1:¬628=316+r.sy.length:=by omega
     have hz2:¬616+r.si.length=316+r.sy.length:=by omega
     have hz3:¬628=616+r.si.length:=by omega
     have wf8:=HN8.out.warm
     have HL:Hid (r.so.length=r.sy.length):=HR3.out.len
     have HW:Hid _:=HR8.out.site rfl r.sy.length hfl
     have HW2:Hid _:=HR8.out.site_names HN8.out rfl r.sy.length hfl
     unfold Hid at HW HW2
     simp only [HL.out] at HW HW2
     have HV:Hid _:=HW
     have HV2:Hid _:=HW2
     clear HW HW2
     go_wp2_with fail
     go_region
     go_wp2_with fail
     go_region
     go_wp2_with fail
     go_ret
     rw [HG3.out]
     exact ⟨rfl,Beside.drew (Beside.drew (((HS8.out.set _ _).set _ _).set _ _)),fun _=>⟨HV2.out.below ((Below.refl _ _).drew.drew),by rw [HWV.out];exact ((HV.out.other _ _).below (by simpa using HN8.out.lt) ((Below.refl _ _).drew.drew))⟩⟩
end Go.Proofs.YtgobgdljckamkaaGreatDoor
