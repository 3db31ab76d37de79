import Derived.Test.YtenoopfeplalnaaGreatDoorKJb
set_option maxHeartbeats 8000000
set_option linter.all false
namespace Go.Proofs.YtenoopfeplalnaaGreatDoor
section
open Go.RowKit Go.Maps
def LkB (ls:List Lk):Prop:=ls.length<=2000000/\∀ l∈ls,l.1<=1000000/\l.2.1<=1000000/\l.2.2<=1000000
theorem zJ8 (n:Int) (w:World):(Instr.makeMap 62 (some (.int .i64 n))).run Tryz.prog w=.ok (.map (some w.heap.size)) (w.alloc (.map #[] 0)):=by
 simp [Instr.makeMap,run_underlying Tryz.underlying62,asInt,asIntOf,Result.andThen]
theorem TurnM.made (w:World):TurnM (w.alloc (.map #[] 0)) w.heap.size 0 []:=⟨_,MapF.made w _,fun _ _=>rfl⟩
theorem zE9 {α:Type} {l:List α} {k:Nat} {x:α} (h:l[k]?=some x):l.take (k+1)=l.take k++[x]:=by rw [List.take_add_one,h];rfl
set_option maxRecDepth 100000 in
theorem yd3 (B:Nat) (lv:Value) (ls:List Lk) (w:World) (h:w.ownsRow B 43 3 lv ls.length (lkL ls)) (hl:LkB ls) :
  Calls Tryz.prog 12 #[lv] w fun e w'=>∃ b:Nat,e=.returned (.map (some b))/\TurnM w' b ls.length ls/\Ok w w':=by
 have HO:=hid h
 have HL:=hid hl
 obtain ⟨ao,cap,rfl⟩:=za0 h
 obtain ⟨N,hN⟩:∃ N,N=ls.length:=⟨_,rfl⟩
 have HN:Hid (N=ls.length/\N<=2000000):=⟨hN,by rw [hN];exact hl.1⟩
 rw [<-hN] at HO ⊢
 have hNp:¬(N:Int)<0:=by omega
 clear h hl hN
 have hmk:=zJ8 (N:Int) w
 go_enter Tryz.func12,Tryz.ntmps12
 go_wp2_with fail
 obtain ⟨W,hW⟩:∃ z,z=w.alloc (.map #[] 0):=⟨_,rfl⟩
 obtain ⟨b,hb⟩:∃ z,z=w.heap.size:=⟨_,rfl⟩
 rw [<-hW,<-hb]
 have HK0:Hid (Ok w W):=by unfold Hid;rw [hW];exact (Ok.refl w).alloc _
 have HT0:Hid (TurnM W b 0 []):=by unfold Hid;rw [hW,hb];exact TurnM.made w
 have HB:Hid (w.heap.size=b):=hb.symm
 clear hW hb hmk
 go_loopw [11] (fun i wr=>∃ k:Nat,i=.int .i64 (k:Nat)/\k<=N/\Hid (TurnM wr b k (ls.take k))/\Hid (Ok w wr)) (fun i _=>N-(intOf i).toNat)
 case atStart=>exact ⟨0,rfl,Nat.zero_le _,HT0,HK0⟩
 case round =>
  obtain ⟨k,rfl,hk,HT,HK⟩:=hrel
  by_cases hkl:k<N
  ·have hkl':(k:Int)<(N:Int):=za6 hkl
   have hkw:IntKind.i64.wrap ((k:Int)+1)=((k+1:Nat):Int):=zb6 (by have:=HN.out;omega)
   obtain ⟨l,hl⟩:∃ l,ls[k]?=some l:=⟨_,List.getElem?_eq_getElem (by have:=HN.out;omega)⟩
   obtain ⟨x,y,z⟩:=l
   have HLK:Hid (ls.take (k+1)=ls.take k++[(x,y,z)]):=zE9 hl
   have HLB:Hid (x<=1000000/\y<=1000000/\z<=1000000):=HL.out.2 _ (List.mem_of_getElem? hl)
   have ho:=za1 HO.out HK.out
   obtain ⟨g,cp,e1,_⟩:=ho.form (by omega)
   injection e1 with e1 _ _
   subst e1
   obtain ⟨q0,q1,q2⟩:=zz7 hl
   have c0:=ho.cells (g:=g) rfl _ _ q0
   have c1:=ho.cells (g:=g) rfl _ _ q1
   have c2:=ho.cells (g:=g) rfl _ _ q2
   rw [zc0,Nat.zero_add] at c0 c1 c2
   have hgl:=(ho.lt g rfl).2
   obtain ⟨w2,hput,HT2,HG2⟩:=(HT.out.ok ((Ok.refl wr).alloc (Obj.cells #[.int .i64 (x:Nat),.int .i64 (y:Nat),.int .i64 (z:Nat)] 43))).put (x,y,z) HLB.out.1 HLB.out.2.2 HLB.out.2.1 (by have:=HN.out;omega)
   clear ho hl q0 q1 q2
   go_wp2_with fail
   refine ⟨⟨k+1,rfl,hkl,by unfold Hid;rw [HLK.out];exact HT2,(HK.out.alloc _).grown HG2 (fun b' e=>by injection e with e;rw [<-e];exact Nat.le_of_eq HB.out)⟩,?_⟩
   simp only [intOf,Int.toNat_natCast]
   omega
  ·have hkl':¬(k:Int)<(N:Int):=by omega
   have hke:k=ls.length:=by have:=HN.out;omega
   have HTE:Hid (TurnM wr b ls.length ls):=by have h:=HT.out;rw [hke,List.take_length] at h;exact h
   have HNN:Hid (N=ls.length):=HN.out.1
   clear hke
   go_wp2_with fail
   go_ret
   exact ⟨b,rfl,by rw [HNN.out];exact HTE.out,HK.out⟩
end
section
open Go.RowKit Go.Maps
def flV (r:Int) (ls:List Lk) (path:List Int):Int×Int:=if r=0 then (match goP ls 0 path with | some u=>((u:Int),0) | none=>(0,1)) else (0,r)
theorem zP1 {ls:List Lk} {u:Nat} {y:Int} {path:List Int} {k:Nat} (h:path[k]?=some y):goP ls u (path.drop k)=(goP ls u [y]).bind fun t=>goP ls t (path.drop (k+1)):=by
 obtain ⟨hk,e⟩:=List.getElem?_eq_some_iff.1 h
 rw [List.drop_eq_getElem_cons hk,e]
 exact zz2 ls u [y] _
set_option maxRecDepth 100000 in
theorem zT2 (v:Nat->Value) (c:Nat->Int) (tz:Option Addr) (tn tc:Nat) (pv:Value) (r:Int) (N:Nat) (R:List Int×List Vx×List Lk) (w:World) (hr:r≠0)
  (hS:∀ Y,Ok w Y->Calls Tryz.prog 5 #[.agg #[v 0,v 1,v 2,v 3,v 4,v 5],.agg #[.int .i64 (c 0),.int .i64 (c 1),.int .i64 (c 2),.int .i64 (c 3),.int .i64 (c 4),.int .i64 (c 5),.slice tz tn tc,.int .i64 (c 7),.int .i64 (c 8)]] Y fun e w'=>SpG Y r N R e w') :
  Calls Tryz.prog 6 #[.agg #[v 0,v 1,v 2,v 3,v 4,v 5],.agg #[.int .i64 (c 0),.int .i64 (c 1),.int .i64 (c 2),.int .i64 (c 3),.int .i64 (c 4),.int .i64 (c 5),.slice tz tn tc,.int .i64 (c 7),.int .i64 (c 8)],pv] w fun e w'=>e=.returned (.tuple #[.int .i64 0,.int .i64 r])/\Ok w w':=by
 have HS:=hid hS
 have HR:=hid hr
 have hrb:(r != 0)=true:=bne_iff_ne.2 hr
 clear hS hr
 go_enter Tryz.func6,Tryz.ntmps6
 go_wp2_with fail
 refine (HS.out _ (((Ok.refl w).alloc _).alloc _)).mono ?_
 rintro e w1 hv
 obtain ⟨rfl,hk⟩:e=.returned (.tuple #[.agg #[.slice none 0 0,.slice none 0 0,.slice none 0 0],.int .i64 r])/\Ok _ w1:=hv.elim (fun h=>h.2) (fun h=>absurd h.1 HR.out)
 have HK:Hid (Ok w w1):=(((Ok.refl w).alloc _).alloc _).step hk
 clear hv hk
 go_wp2_with fail
 (try simp only [Exit.inBlock,Exit.then])
 refine bodyPost_ret (results_tmp2 rfl _ _ _) rfl ?_
 exact ⟨rfl,HK.out.alloc _⟩
set_option maxRecDepth 100000 in
theorem yd4 (v:Nat->Value) (c:Nat->Int) (tz:Option Addr) (tn tc:Nat) (pv:Value) (path:List Int) (N:Nat) (R:List Int×List Vx×List Lk) (p:Pl) (w:World) (hF:FI p R.2.1.length R.2.1 R.2.2) (hL:LkB R.2.2)
  (hp:SL w 1 pv path.length (ilL path)) (hpl:path.length<=100000) (hpw:∀ y∈path,(Lit.int .i64 y).wf=true)
  (hS:∀ Y,Ok w Y->Calls Tryz.prog 5 #[.agg #[v 0,v 1,v 2,v 3,v 4,v 5],.agg #[.int .i64 (c 0),.int .i64 (c 1),.int .i64 (c 2),.int .i64 (c 3),.int .i64 (c 4),.int .i64 (c 5),.slice tz tn tc,.int .i64 (c 7),.int .i64 (c 8)]] Y fun e w'=>SpG Y 0 N R e w') :
  Calls Tryz.prog 6 #[.agg #[v 0,v 1,v 2,v 3,v 4,v 5],.agg #[.int .i64 (c 0),.int .i64 (c 1),.int .i64 (c 2),.int .i64 (c 3),.int .i64 (c 4),.int .i64 (c 5),.slice tz tn tc,.int .i64 (c 7),.int .i64 (c 8)],pv] w fun e w'=>e=.returned (.tuple #[.int .i64 (flV 0 R.2.2 path).1,.int .i64 (flV 0 R.2.2 path).2])/\Ok w w':=by
 have HS:=hid hS
 have HF:=hid hF
 have HL:=hid hL
 have HP:=hid hp
 have HPW:=hid hpw
 obtain ⟨_,_,po,pc,rfl,_⟩:=hp
 obtain ⟨n,hn⟩:∃ n,n=path.length:=⟨_,rfl⟩
 have HN:Hid (n=path.length/\n<=100000):=⟨hn,by omega⟩
 rw [<-hn] at HP ⊢
 clear hF hL hpl hpw hS hn
 go_enter Tryz.func6,Tryz.ntmps6
 go_wp2_with fail
 refine (HS.out _ (((Ok.refl w).alloc _).alloc _)).mono ?_
 rintro e w1 hv
 have hv2:PsIs _ N R e w1:=hv.elim (fun h=>absurd rfl h.1) (fun h=>h.2)
 obtain ⟨vv,lv,mv,rfl,⟨tl,_,hvv,_⟩,hlv,hmv,hk1⟩:=hv2
 have HK1:Hid (Ok w w1):=(((Ok.refl w).alloc _).alloc _).step hk1
 have HLV:Hid (w1.ownsRow 0 43 3 lv R.2.2.length (lkL R.2.2)):=za8 hlv (Nat.zero_le _)
 obtain ⟨vo,vc,rfl⟩:=za0 hvv
 obtain ⟨lo,lc,rfl⟩:=za0 hlv
 obtain ⟨mo,mc,rfl⟩:=za0 hmv
 obtain ⟨vn,hvn⟩:∃ x,x=R.2.1.length:=⟨_,rfl⟩
 obtain ⟨ln,hln⟩:∃ x,x=R.2.2.length:=⟨_,rfl⟩
 obtain ⟨mn,hmn⟩:∃ x,x=(mgL N R.1).length:=⟨_,rfl⟩
 rw [<-hvn,<-hln,<-hmn]
 have HLN:Hid (ln=R.2.2.length):=hln
 rw [<-hln] at HLV
 clear hv hk1 hlv hvv hmv hvn hln hmn
 go_wp2_with fail
 refine (yd3 0 _ R.2.2 _ (by rw [<-HLN.out];exact za1 HLV.out ((Ok.refl _).alloc _)) HL.out).mono ?_
 rintro e w2 ⟨b,rfl,ht,hk2⟩
 have HK2:Hid (Ok w w2):=(HK1.out.alloc _).step hk2
 have HT:Hid (TurnM w2 b R.2.2.length R.2.2):=ht
 clear ht hk2
 go_wp2_with fail
 go_loopw [11,30] (fun t i wr=>∃ (k u:Nat),i=.int .i64 (k:Nat)/\t=.int .i64 (u:Nat)/\k<=n/\Hid (goP R.2.2 0 path=goP R.2.2 u (path.drop k))/\Hid (u<=1000000)/\Hid (Ok w2 wr)) (fun _ i _=>n-(intOf i).toNat)
 case atStart=>exact ⟨0,0,rfl,rfl,Nat.zero_le _,rfl,Nat.zero_le _,Ok.refl _⟩
 case round =>
  obtain ⟨k,u,rfl,rfl,hk,HG,HU,HK⟩:=hrel
  by_cases hkl:k<n
  ·have hkl':(k:Int)<(n:Int):=za6 hkl
   have hkw:IntKind.i64.wrap ((k:Int)+1)=((k+1:Nat):Int):=zb6 (by have:=HN.out;omega)
   obtain ⟨y,hy⟩:∃ y,path[k]?=some y:=⟨_,List.getElem?_eq_getElem (by have:=HN.out;omega)⟩
   have HY:Hid (path[k]?=some y):=hy
   obtain ⟨_,_,po',pc',e1,h2⟩:=HP.out.below (HK2.out.step HK.out)
   injection e1 with e1 _ e3
   subst e1
   obtain ⟨pb,pf,e4,hpb,hpc⟩:=h2.resolve_left (by omega)
   subst e4
   have c0:=hpc k (.int .i64 y) (zs5 hy)
   have hlk:=(HT.out.ok HK.out).look (x:=(u:Int)) (y:=y) (gwf (by have:=HU.out;omega) (by have:=HU.out;omega)) (HPW.out y (List.mem_of_getElem? hy))
   have hst:lookT R.2.2 (u:Int) y=(goP R.2.2 u [y]).map fun u:Nat=>(u:Int):=zT1 HF.out u y
   clear hpc h2 hy e3
   cases hg:goP R.2.2 u [y] with
   | some t =>
    rw [hg] at hst
    have hst2:lookT R.2.2 (u:Int) y=some (t:Int):=hst
    rw [hst2] at hlk
    have HT1:Hid (t<=1000000):=by
     obtain ⟨l,hm,_,_,h3⟩:=zx1 _ hst2
     have:=(HL.out.2 l hm).2.1
     unfold Hid;omega
    have HG2:Hid (goP R.2.2 0 path=goP R.2.2 t (path.drop (k+1))):=by unfold Hid;rw [HG.out,zP1 HY.out,hg];rfl
    simp only [Option.getD_some,Option.isSome_some] at hlk
    clear hst hst2 hg HG
    go_wp2_with fail
    refine ⟨⟨k+1,t,rfl,rfl,hkl,HG2,HT1,HK⟩,?_⟩
    simp only [intOf,Int.toNat_natCast]
    omega
   | none =>
    rw [hg] at hst
    have hst2:lookT R.2.2 (u:Int) y=none:=hst
    rw [hst2] at hlk
    have HG2:Hid (flV 0 R.2.2 path=(0,1)):=by unfold Hid flV;rw [if_pos rfl,HG.out,zP1 HY.out,hg];rfl
    simp only [Option.getD_none,Option.isSome_none] at hlk
    clear hst hst2 hg HG
    go_wp2_with fail
    (try simp only [Exit.inBlock,Exit.then])
    refine bodyPost_ret (results_tmp2 rfl _ _ _) rfl ?_
    rw [HG2.out]
    exact ⟨rfl,HK2.out.step HK.out⟩
  ·have hkl':¬(k:Int)<(n:Int):=by omega
   have HG2:Hid (flV 0 R.2.2 path=((u:Int),0)):=by unfold Hid flV;rw [if_pos rfl,HG.out,List.drop_of_length_le (by have:=HN.out;omega)];rfl
   clear HG
   go_wp2_with fail
   (try simp only [Exit.inBlock,Exit.then])
   refine bodyPost_ret (results_tmp2 rfl _ _ _) rfl ?_
   rw [HG2.out]
   exact ⟨rfl,HK2.out.step HK.out⟩
end
end Go.Proofs.YtenoopfeplalnaaGreatDoor
