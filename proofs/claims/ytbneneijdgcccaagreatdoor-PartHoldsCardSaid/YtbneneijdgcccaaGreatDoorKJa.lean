import Derived.DeepKeys4
import Derived.Test.YtbneneijdgcccaaGreatDoorKIh
import Derived.Test.YtbneneijdgcccaaGreatDoorKQi
set_option maxHeartbeats 8000000
set_option linter.all false
set_option maxRecDepth 100000
namespace Go.Proofs.YtbneneijdgcccaaGreatDoor
section
open Go.RowKit Go.Maps
def SpG (w:World) (r:Int) (N:Nat) (R:List Int×List Vx×List Lk) (e:Ending) (w':World):Prop :=
 (r≠0/\e=.returned (.tuple #[.agg #[.slice none 0 0,.slice none 0 0,.slice none 0 0],.int .i64 r])/\Ok w w')\/(r=0/\PsIs w N R e w')
def lookT (ls:List Lk) (x y:Int):Option Int:=ls.foldl (fun o l=>if (l.1:Int)=x/\(l.2.2:Int)=y then some (l.2.1:Int) else o) none
theorem zt9 (ls:List Lk) (l:Lk) (x y:Int):lookT (ls++[l]) x y=if (l.1:Int)=x/\(l.2.2:Int)=y then some (l.2.1:Int) else lookT ls x y:=by
 unfold lookT;rw [List.foldl_append];rfl
theorem ye4 {α:Type} {p:List α->Prop} (h0:p []) (h1:∀ l x,p l->p (l++[x])) (l:List α):p l:=by
 have:∀ m:List α,p m.reverse:=fun m=>by
  induction m with
  | nil=>exact h0
  | cons a t ih=>rw [List.reverse_cons];exact h1 _ _ ih
 have h:=this l.reverse
 rwa [List.reverse_reverse] at h
theorem zx7 {x y:Int} {t:Int} (ls:List Lk):lookT ls x y=some t->∃ l∈ls,(l.1:Int)=x/\(l.2.2:Int)=y/\(l.2.1:Int)=t:=by
 refine ye4 (p:=fun ls=>lookT ls x y=some t->∃ l∈ls,(l.1:Int)=x/\(l.2.2:Int)=y/\(l.2.1:Int)=t) ?_ ?_ ls
 ·intro h;cases h
 intro ls l ih h
 rw [zt9] at h
 by_cases c:(l.1:Int)=x/\(l.2.2:Int)=y
 ·rw [if_pos c] at h
  injection h with h
  exact ⟨l,by simp,c.1,c.2,h⟩
 rw [if_neg c] at h
 obtain ⟨m,hm,r⟩:=ih h
 exact ⟨m,List.mem_append_left _ hm,r⟩
theorem zV1 {x y:Int} (ls:List Lk):lookT ls x y=none->∀ l∈ls,¬((l.1:Int)=x/\(l.2.2:Int)=y):=by
 refine ye4 (p:=fun ls=>lookT ls x y=none->∀ l∈ls,¬((l.1:Int)=x/\(l.2.2:Int)=y)) ?_ ?_ ls
 ·intro _ l hl;cases hl
 intro ls l ih h
 rw [zt9] at h
 by_cases c:(l.1:Int)=x/\(l.2.2:Int)=y
 ·rw [if_pos c] at h;cases h
 rw [if_neg c] at h
 intro m hm
 rcases List.mem_append.1 hm with hm | hm
 ·exact ih h m hm
 rw [List.mem_singleton.1 hm];exact c
theorem zV2 {p:Pl} {vs:List Vx} {ls:List Lk} (h:FI p vs.length vs ls) (v:Nat) (k:Int):lookT ls (v:Int) k=(goP ls v [k]).map fun u:Nat=>(u:Int):=by
 rw [yy1]
 cases hl:lookT ls (v:Int) k with
 | some t =>
  obtain ⟨l,hm,h1,h2,h3⟩:=zx7 ls hl
  have e1:l.1=v:=by omega
  have e2:k.toNat=l.2.2:=by omega
  rw [if_pos (by omega),e2,<-e1,h.next_some hm,<-h3]
  rfl
 | none =>
  have hn:=zV1 ls hl
  by_cases c:0<=k
  ·rw [if_pos c]
   have:nextV ls v k.toNat=none:=by
    unfold nextV
    rw [Option.map_eq_none_iff,List.find?_eq_none]
    intro l hm
    have:=hn l hm
    simp only [decide_eq_true_eq]
    omega
   rw [this];rfl
  rw [if_neg c];rfl
theorem yp9:Tryz.prog.keyType 108=true:=by kernel_rfl
theorem zp7:Tryz.prog.cellsOf 108=2/\Tryz.prog.cellsOf 3=1:=by
 refine ⟨?_,?_⟩<;>kernel_rfl
theorem zQ6:Keyed Tryz.prog 108:=Keyed.of_law (deep_law_laid (by kernel_rfl) (m:=2) (by omega) (of_decide_eq_true (by kernel_rfl)) (by kernel_rfl) (by rw [Tryz.underlying108]))
theorem zQ7 {a b:Int} (ha:(Lit.int .i64 a).wf=true) (hb:(Lit.int .i64 b).wf=true):∃ kl,keyOf Tryz.prog 108 (.agg #[.int .i64 a,.int .i64 b])=some kl:=by
 obtain ⟨m,hm⟩:∃ m,Tryz.prog.types.size=m+1:=⟨_,(by kernel_rfl:Tryz.prog.types.size=(Tryz.prog.types.size-1)+1)⟩
 have h3:Tryz.prog.keyLits (m+1+1) 108 [.int .i64 a,.int .i64 b]=some [.int .i64 a,.int .i64 b]:=by
  simp [Program.keyLits,Tryz.underlying108,Tryz.underlying3,zp7.1,zp7.2,ha,hb]
 refine ⟨.string (keyBytes [.int .i64 a,.int .i64 b]),?_⟩
 unfold keyOf
 rw [Tryz.underlying108]
 simp only [yp9,Value.formed,Tryz.underlying108,zp7.1,hm,Value.cells]
 simp [h3]
def TurnM (w:World) (b N:Nat) (ls:List Lk):Prop:=∃ f,MapF w 108 b N f/\∀ x y:Int,f (.agg #[.int .i64 x,.int .i64 y])=lookT ls x y
theorem TurnM.ok {w w':World} {b N:Nat} {ls:List Lk} (h:TurnM w b N ls) (hk:Ok w w'):TurnM w' b N ls:=by
 obtain ⟨f,h1,h2⟩:=h
 exact ⟨f,h1.ok hk,h2⟩
theorem TurnM.look {w:World} {b N:Nat} {ls:List Lk} (h:TurnM w b N ls) {x y:Int} (hx:(Lit.int .i64 x).wf=true) (hy:(Lit.int .i64 y).wf=true) :
  (Instr.lookup 104 (.map (some b)) (.agg #[.int .i64 x,.int .i64 y]) true).run Tryz.prog w=.ok (.tuple #[.int .i64 ((lookT ls x y).getD 0),.bool (lookT ls x y).isSome]) w:=by
 obtain ⟨f,h1,h2⟩:=h
 obtain ⟨kl,hk⟩:=zQ7 hx hy
 rw [<-h2]
 exact h1.look_ok zQ6 Tryz.underlying104 hk
theorem TurnM.put {w:World} {b N:Nat} {ls:List Lk} (h:TurnM w b N ls) (l:Lk) (hx:l.1<=1000000) (hy:l.2.2<=1000000) (ht:l.2.1<=1000000) (hN:N<=2000000) :
  ∃ w',(Instr.mapUpdate 104 (.map (some b)) (.agg #[.int .i64 (l.1:Nat),.int .i64 (l.2.2:Nat)]) (.int .i64 (l.2.1:Nat))).run Tryz.prog w=.ok () w'/\TurnM w' b (N+1) (ls++[l])/\w.grownBy w' (some b):=by
 obtain ⟨f,h1,h2⟩:=h
 obtain ⟨kl,hk⟩:=zQ7 (a:=(l.1:Int)) (b:=(l.2.2:Int)) (gwf (by omega) (by omega)) (gwf (by omega) (by omega))
 classical
 obtain ⟨w',r1,r2,r3⟩:=h1.put (f':=fun u=>if u=.agg #[.int .i64 (l.1:Nat),.int .i64 (l.2.2:Nat)] then some (l.2.1:Int) else f u) zQ6 Tryz.underlying104 hk (y:=(l.2.1:Int)) (by omega) (by omega) (by unfold maxLen;omega) (by simp) (fun u hu=>by simp [hu])
 refine ⟨w',r1,⟨_,r2,fun x y=>?_⟩,r3⟩
 rw [zt9,<-h2]
 by_cases c:(l.1:Int)=x/\(l.2.2:Int)=y
 ·rw [if_pos c,c.1,c.2];simp
 rw [if_neg c,if_neg]
 intro e
 injection e with e
 simp only [Array.mk.injEq,List.cons.injEq,Value.int.injEq,true_and,and_true] at e
 exact c ⟨e.1.symm,e.2.symm⟩
end
section
open Go.RowKit Go.Maps
def LkB (ls:List Lk):Prop:=ls.length<=2000000/\∀ l∈ls,l.1<=1000000/\l.2.1<=1000000/\l.2.2<=1000000
theorem zK7 (n:Int) (w:World):(Instr.makeMap 104 (some (.int .i64 n))).run Tryz.prog w=.ok (.map (some w.heap.size)) (w.alloc (.map #[] 0)):=by
 simp [Instr.makeMap,run_underlying Tryz.underlying104,asInt,asIntOf,Result.andThen]
theorem TurnM.made (w:World):TurnM (w.alloc (.map #[] 0)) w.heap.size 0 []:=⟨_,MapF.made w _,fun _ _=>rfl⟩
theorem zm0 {α:Type} {l:List α} {k:Nat} {x:α} (h:l[k]?=some x):l.take (k+1)=l.take k++[x]:=by rw [List.take_add_one,h];rfl
theorem ye5 (B:Nat) (lv:Value) (ls:List Lk) (w:World) (h:w.ownsRow B 58 3 lv ls.length (lkL ls)) (hl:LkB ls) :
  Calls Tryz.prog 30 #[lv] w fun e w'=>∃ b:Nat,e=.returned (.map (some b))/\TurnM w' b ls.length ls/\Ok w w':=by
 have HO:=hid h
 have HL:=hid hl
 obtain ⟨ao,cap,rfl⟩:=za0 h
 obtain ⟨N,hN⟩:=qq (ls.length)
 have HN:Hi (N=ls.length/\N<=2000000):=⟨hN,by rw [hN];exact hl.1⟩
 rw [<-hN] at HO ⊢
 have hNp:¬(N:Int)<0:=by omega
 clear h hl hN
 have hmk:=zK7 (N:Int) w
 go_enter Tryz.func30,Tryz.ntmps30
 go_wp2_with fail
 obtain ⟨W,hW⟩:=qq (w.alloc (.map #[] 0))
 obtain ⟨b,hb⟩:=qq (w.heap.size)
 rw [<-hW,<-hb]
 have HK0:Hi (Ok w W):=by rw [hW];exact (Ok.refl w).alloc _
 have HT0:Hi (TurnM W b 0 []):=by rw [hW,hb];exact TurnM.made w
 have HB:Hi (w.heap.size=b):=hb.symm
 clear hW hb hmk
 go_loopw [11] (fun i wr=>∃ k:Nat,i=.int .i64 (k:Nat)/\k<=N/\Hi (TurnM wr b k (ls.take k))/\Hi (Ok w wr)) (fun i _=>N-(intOf i).toNat)
 case atStart=>exact ⟨0,rfl,Nat.zero_le _,HT0,HK0⟩
 obtain ⟨k,rfl,hk,HT,HK⟩:=hrel
 by_cases hkl:k<N
 ·have hkl':(k:Int)<(N:Int):=za5 hkl
  have hkw:IntKind.i64.wrap ((k:Int)+1)=((k+1:Nat):Int):=zb3 (by have:=HN.o;omega)
  obtain ⟨l,hl⟩:∃ l,ls[k]?=some l:=⟨_,List.getElem?_eq_getElem (by have:=HN.o;omega)⟩
  obtain ⟨x,y,z⟩:=l
  have HLK:Hi (ls.take (k+1)=ls.take k++[(x,y,z)]):=zm0 hl
  have HLB:Hi (x<=1000000/\y<=1000000/\z<=1000000):=HL.o.2 _ (List.mem_of_getElem? hl)
  have ho:=za1 HO.o HK.o
  obtain ⟨g,cp,e1,_⟩:=ho.form (by omega)
  injection e1 with e1 _ _
  subst e1
  obtain ⟨q0,q1,q2⟩:=zA3 hl
  have c0:=ho.cells (g:=g) rfl _ _ q0
  have c1:=ho.cells (g:=g) rfl _ _ q1
  have c2:=ho.cells (g:=g) rfl _ _ q2
  rw [zb7,Nat.zero_add] at c0 c1 c2
  have hgl:=(ho.lt g rfl).2
  obtain ⟨w2,hput,HT2,HG2⟩:=(HT.o.ok ((Ok.refl wr).alloc (Obj.cells #[.int .i64 (x:Nat),.int .i64 (y:Nat),.int .i64 (z:Nat)] 58))).put (x,y,z) HLB.o.1 HLB.o.2.2 HLB.o.2.1 (by have:=HN.o;omega)
  clear ho hl q0 q1 q2
  go_wp2_with fail
  refine ⟨⟨k+1,rfl,hkl,by rw [HLK.o];exact HT2,(HK.o.alloc _).grown HG2 (fun b' e=>by injection e with e;rw [<-e];exact Nat.le_of_eq HB.o)⟩,?_⟩
  simp only [intOf,Int.toNat_natCast]
  omega
 have hkl':¬(k:Int)<(N:Int):=by omega
 have hke:k=ls.length:=by have:=HN.o;omega
 have HTE:Hi (TurnM wr b ls.length ls):=by have h:=HT.o;rw [hke,List.take_length] at h;exact h
 have HNN:Hi (N=ls.length):=HN.o.1
 clear hke
 go_wp2_with fail
 go_ret
 exact ⟨b,rfl,by rw [HNN.o];exact HTE.o,HK.o⟩
end
section
open Go.RowKit Go.Maps
def flV (r:Int) (ls:List Lk) (path:List Int):Int×Int:=if r=0 then (match goP ls 0 path with | some u=>((u:Int),0) | none=>(0,1)) else (0,r)
theorem zQ8 {ls:List Lk} {u:Nat} {y:Int} {path:List Int} {k:Nat} (h:path[k]?=some y):goP ls u (path.drop k)=(goP ls u [y]).bind fun t=>goP ls t (path.drop (k+1)):=by
 obtain ⟨hk,e⟩:=List.getElem?_eq_some_iff.1 h
 rw [List.drop_eq_getElem_cons hk,e]
 exact yb5 ls u [y] _
theorem zV3 (v:Nat->Value) (c:Nat->Int) (tz:Option Addr) (tn tc:Nat) (pv:Value) (r:Int) (N:Nat) (R:List Int×List Vx×List Lk) (w:World) (hr:r≠0)
  (hS:∀ Y,Ok w Y->Calls Tryz.prog 5 #[.agg #[v 0,v 1,v 2,v 3,v 4,v 5],.agg #[.int .i64 (c 0),.int .i64 (c 1),.int .i64 (c 2),.int .i64 (c 3),.int .i64 (c 4),.int .i64 (c 5),.slice tz tn tc,.int .i64 (c 7),.int .i64 (c 8)]] Y fun e w'=>SpG Y r N R e w') :
  Calls Tryz.prog 14 #[.agg #[v 0,v 1,v 2,v 3,v 4,v 5],.agg #[.int .i64 (c 0),.int .i64 (c 1),.int .i64 (c 2),.int .i64 (c 3),.int .i64 (c 4),.int .i64 (c 5),.slice tz tn tc,.int .i64 (c 7),.int .i64 (c 8)],pv] w fun e w'=>e=.returned (.tuple #[.int .i64 0,.int .i64 r])/\Ok w w':=by
 have HS:=hid hS
 have HR:=hid hr
 have hrb:(r != 0)=true:=bne_iff_ne.2 hr
 clear hS hr
 go_enter Tryz.func14,Tryz.ntmps14
 go_wp2_with fail
 refine (HS.o _ (((Ok.refl w).alloc _).alloc _)).mono ?_
 rintro e w1 hv
 obtain ⟨rfl,hk⟩:e=.returned (.tuple #[.agg #[.slice none 0 0,.slice none 0 0,.slice none 0 0],.int .i64 r])/\Ok _ w1:=hv.elim (fun h=>h.2) (fun h=>absurd h.1 HR.o)
 have HK:Hi (Ok w w1):=(((Ok.refl w).alloc _).alloc _).step hk
 clear hv hk
 go_wp2_with fail
 (try simp only [Exit.inBlock,Exit.then])
 refine bodyPost_ret (results_tmp2 rfl _ _ _) rfl ?_
 exact ⟨rfl,HK.o.alloc _⟩
theorem ye6 (v:Nat->Value) (c:Nat->Int) (tz:Option Addr) (tn tc:Nat) (pv:Value) (path:List Int) (N:Nat) (R:List Int×List Vx×List Lk) (p:Pl) (w:World) (hF:FI p R.2.1.length R.2.1 R.2.2) (hL:LkB R.2.2)
  (hp:SL w 1 pv path.length (ilL path)) (hpl:path.length<=100000) (hpw:∀ y∈path,(Lit.int .i64 y).wf=true)
  (hS:∀ Y,Ok w Y->Calls Tryz.prog 5 #[.agg #[v 0,v 1,v 2,v 3,v 4,v 5],.agg #[.int .i64 (c 0),.int .i64 (c 1),.int .i64 (c 2),.int .i64 (c 3),.int .i64 (c 4),.int .i64 (c 5),.slice tz tn tc,.int .i64 (c 7),.int .i64 (c 8)]] Y fun e w'=>SpG Y 0 N R e w') :
  Calls Tryz.prog 14 #[.agg #[v 0,v 1,v 2,v 3,v 4,v 5],.agg #[.int .i64 (c 0),.int .i64 (c 1),.int .i64 (c 2),.int .i64 (c 3),.int .i64 (c 4),.int .i64 (c 5),.slice tz tn tc,.int .i64 (c 7),.int .i64 (c 8)],pv] w fun e w'=>e=.returned (.tuple #[.int .i64 (flV 0 R.2.2 path).1,.int .i64 (flV 0 R.2.2 path).2])/\Ok w w':=by
 have HS:=hid hS
 have HF:=hid hF
 have HL:=hid hL
 have HP:=hid hp
 have HPW:=hid hpw
 obtain ⟨_,_,po,pc,rfl,_⟩:=hp
 obtain ⟨n,hn⟩:=qq (path.length)
 have HN:Hi (n=path.length/\n<=100000):=⟨hn,by omega⟩
 rw [<-hn] at HP ⊢
 clear hF hL hpl hpw hS hn
 go_enter Tryz.func14,Tryz.ntmps14
 go_wp2_with fail
 refine (HS.o _ (((Ok.refl w).alloc _).alloc _)).mono ?_
 rintro e w1 hv
 have hv2:PsIs _ N R e w1:=hv.elim (fun h=>absurd rfl h.1) (fun h=>h.2)
 obtain ⟨vv,lv,mv,rfl,⟨tl,_,hvv,_⟩,hlv,hmv,hk1⟩:=hv2
 have HK1:Hi (Ok w w1):=(((Ok.refl w).alloc _).alloc _).step hk1
 have HLV:Hi (w1.ownsRow 0 58 3 lv R.2.2.length (lkL R.2.2)):=za7 hlv (Nat.zero_le _)
 obtain ⟨vo,vc,rfl⟩:=za0 hvv
 obtain ⟨lo,lc,rfl⟩:=za0 hlv
 obtain ⟨mo,mc,rfl⟩:=za0 hmv
 obtain ⟨vn,hvn⟩:=qq (R.2.1.length)
 obtain ⟨ln,hln⟩:=qq (R.2.2.length)
 obtain ⟨mn,hmn⟩:=qq ((mgL N R.1).length)
 rw [<-hvn,<-hln,<-hmn]
 have HLN:Hi (ln=R.2.2.length):=hln
 rw [<-hln] at HLV
 clear hv hk1 hlv hvv hmv hvn hln hmn
 go_wp2_with fail
 refine (ye5 0 _ R.2.2 _ (by rw [<-HLN.o];exact za1 HLV.o ((Ok.refl _).alloc _)) HL.o).mono ?_
 rintro e w2 ⟨b,rfl,ht,hk2⟩
 have HK2:Hi (Ok w w2):=(HK1.o.alloc _).step hk2
 have HT:Hi (TurnM w2 b R.2.2.length R.2.2):=ht
 clear ht hk2
 go_wp2_with fail
 go_loopw [11,30] (fun t i wr=>∃ (k u:Nat),i=.int .i64 (k:Nat)/\t=.int .i64 (u:Nat)/\k<=n/\Hi (goP R.2.2 0 path=goP R.2.2 u (path.drop k))/\Hi (u<=1000000)/\Hi (Ok w2 wr)) (fun _ i _=>n-(intOf i).toNat)
 case atStart=>exact ⟨0,0,rfl,rfl,Nat.zero_le _,rfl,Nat.zero_le _,Ok.refl _⟩
 obtain ⟨k,u,rfl,rfl,hk,HG,HU,HK⟩:=hrel
 by_cases hkl:k<n
 ·have hkl':(k:Int)<(n:Int):=za5 hkl
  have hkw:IntKind.i64.wrap ((k:Int)+1)=((k+1:Nat):Int):=zb3 (by have:=HN.o;omega)
  obtain ⟨y,hy⟩:∃ y,path[k]?=some y:=⟨_,List.getElem?_eq_getElem (by have:=HN.o;omega)⟩
  have HY:Hi (path[k]?=some y):=hy
  obtain ⟨_,_,po',pc',e1,h2⟩:=HP.o.below (HK2.o.step HK.o)
  injection e1 with e1 _ e3
  subst e1
  obtain ⟨pb,pf,e4,hpb,hpc⟩:=h2.resolve_left (by omega)
  subst e4
  have c0:=hpc k (.int .i64 y) (zk6 hy)
  have hlk:=(HT.o.ok HK.o).look (x:=(u:Int)) (y:=y) (gwf (by have:=HU.o;omega) (by have:=HU.o;omega)) (HPW.o y (List.mem_of_getElem? hy))
  have hst:lookT R.2.2 (u:Int) y=(goP R.2.2 u [y]).map fun u:Nat=>(u:Int):=zV2 HF.o u y
  clear hpc h2 hy e3
  cases hg:goP R.2.2 u [y] with
  | some t =>
   rw [hg] at hst
   have hst2:lookT R.2.2 (u:Int) y=some (t:Int):=hst
   rw [hst2] at hlk
   have HT1:Hi (t<=1000000):=by
    obtain ⟨l,hm,_,_,h3⟩:=zx7 _ hst2
    have:=(HL.o.2 l hm).2.1
    unfold Hi;omega
   have HG2:Hi (goP R.2.2 0 path=goP R.2.2 t (path.drop (k+1))):=by unfold Hi;rw [HG.o,zQ8 HY.o,hg];rfl
   simp only [Option.getD_some,Option.isSome_some] at hlk
   clear hst hst2 hg HG
   go_wp2_with fail
   refine ⟨⟨k+1,t,rfl,rfl,hkl,HG2,HT1,HK⟩,?_⟩
   simp only [intOf,Int.toNat_natCast]
   omega
  | none =>
   rw [hg] at hst
   have hst2:lookT R.2.2 (u:Int) y=none:=hst
   rw [hst2] at hlk
   have HG2:Hi (flV 0 R.2.2 path=(0,1)):=by unfold Hi flV;rw [if_pos rfl,HG.o,zQ8 HY.o,hg];rfl
   simp only [Option.getD_none,Option.isSome_none] at hlk
   clear hst hst2 hg HG
   go_wp2_with fail
   (try simp only [Exit.inBlock,Exit.then])
   refine bodyPost_ret (results_tmp2 rfl _ _ _) rfl ?_
   rw [HG2.o]
   exact ⟨rfl,HK2.o.step HK.o⟩
 have hkl':¬(k:Int)<(n:Int):=by omega
 have HG2:Hi (flV 0 R.2.2 path=((u:Int),0)):=by unfold Hi flV;rw [if_pos rfl,HG.o,List.drop_of_length_le (by have:=HN.o;omega)];rfl
 clear HG
 go_wp2_with fail
 (try simp only [Exit.inBlock,Exit.then])
 refine bodyPost_ret (results_tmp2 rfl _ _ _) rfl ?_
 rw [HG2.o]
 exact ⟨rfl,HK2.o.step HK.o⟩
end
section
open Go.RowKit
def TxtP (l:List UInt8) (ns:List Nd):Prop:=∃ P:RP,lexS l=.inr P.ts/\P.en=l.length/\(parE P).1=0/\(parE P).2.2=ns/\(programR ns).1=0
def TxtN (l:List UInt8):Prop:=(∃ p,lexS l=.inl p)\/∃ P:RP,lexS l=.inr P.ts/\P.en=l.length/\((parE P).1=0->(programR (parE P).2.2).1≠0)
end
section
open Go.RowKit
def ns0:List Nd:=[⟨1,0,⟨#[120]⟩,0,0,0⟩,⟨1,7,⟨#[]⟩,0,0,7⟩,⟨2,15,⟨#[]⟩,0,10,12⟩,⟨3,12,⟨#[120]⟩,0,0,10⟩,⟨3,10,⟨#[]⟩,0,0,14⟩,⟨2,9,⟨#[]⟩,0,0,16⟩,⟨2,9,⟨#[]⟩,0,0,25⟩,⟨3,6,⟨#[]⟩,0,0,27⟩,⟨1,8,⟨#[]⟩,0,0,35⟩,⟨2,11,⟨#[]⟩,1,0,41⟩,⟨2,9,⟨#[]⟩,0,0,46⟩]
theorem zh6 {α:Type} {f:α->α->Bool} (hf:∀ a,f a a=true):∀ (l:List α),likeB f l l=true
 | []=>rfl
 | a::s=>by rw [likeB,hf,zh6 hf s];rfl
theorem zK8 (l:Ls):sameLs l l=true:=by
 unfold sameLs
 have h1:∀ a,eqSt a a=true:=fun a=>by unfold eqSt;simp
 have h2:∀ a,eqAr a a=true:=fun a=>by unfold eqAr;simp
 have h3:∀ a,eqIn a a=true:=fun a=>by unfold eqIn;simp
 rw [zh6 h1,zh6 h2,zh6 h3,zh6 h3,zh6 h3];rfl
theorem yq0 {ns:List Nd} (hok:∀ n∈ns,n.Ok) (h:(programR ns).1=0):goodD ns (programR ns).2.2=true:=by
 rw [yj6 ns _ hok,h,zK8];rfl
end
section
open Go.RowKit
def mkOf (k:Nat):List Value:=if k=0 then [.int .i64 (-7),.int .i64 0,.string ⟨#[]⟩,.int .i64 0,.int .i64 0,.int .i64 0] else if k=1 then [.string ⟨#[114,111,111,109]⟩] else if k=2 then [.string ⟨#[]⟩,.int .i64 (-7)] else [.int .i64 (-7)]
def cpV (ns:List Nd) (l:Ls) (g d:Nat->Nat) (k:Nat):Value:=.slice (some ⟨g k,0,none⟩) (nOf ns.length l k) (d k)
structure CpIs (w:World) (B:Nat) (g d:Nat->Nat) (ns:List Nd) (l:Ls):Prop where
 row:∀ k,k<6->w.ownsRow (B+2) (TY k) (SZ k) (.slice (some ⟨g k,0,none⟩) (nOf ns.length l k+1) (d k)) (nOf ns.length l k+1) (xOf ns ns.length l k++mkOf k)
 up:∀ j k,j<k->k<6->g j<g k
theorem ye7 (ns:List Nd) (l:Ls) (k:Nat) (hk:k<6):(xOf ns ns.length l k).length=nOf ns.length l k*SZ k:=by
 rcases (show k=0\/k=1\/k=2\/k=3\/k=4\/k=5 by omega) with rfl | rfl | rfl | rfl | rfl | rfl
 ·have e:xOf ns ns.length l 0=ndL ns:=by unfold xOf;rw [if_pos rfl,List.take_length];rfl
  rw [e];exact zu2 ns
 ·simp [xOf,nOf,SZ]
 ·exact zN2 l.ar
 ·simp [xOf,nOf,SZ]
 ·simp [xOf,nOf,SZ]
 simp [xOf,nOf,SZ]
theorem CpIs.pr {w:World} {B:Nat} {g d:Nat->Nat} {ns:List Nd} {l:Ls} (h:CpIs w B g d ns l):PrIs w B (cpV ns l g d) ns l:=fun k hk =>
 za7 (yj8 (h.row k hk) (ye7 ns l k hk) (Nat.le_succ _)) (Nat.le_add_right _ _)
end
section
open Go.RowKit
def CRows (w:World) (B:Nat) (g d:Nat->Nat) (ns:List Nd) (m:Ls):Prop:=∀ k,k<6->w.ownsRow B (TY k) (SZ k) (.slice (some ⟨g k,0,none⟩) (nOf ns.length m k+1) (d k)) (nOf ns.length m k+1) (xOf ns ns.length m k++mkOf k)
theorem CRows.pr {w:World} {B:Nat} {g d:Nat->Nat} {ns:List Nd} {m:Ls} (h:CRows w B g d ns m):PrIs w B (cpV ns m g d) ns m:=fun k hk=>yj8 (h k hk) (ye7 ns m k hk) (Nat.le_succ _)
theorem CRows.room {w:World} {B:Nat} {g d:Nat->Nat} {ns:List Nd} {m:Ls} (h:CRows w B g d ns m) (k:Nat) (hk:k<6):nOf ns.length m k+1<=d k/\d k<=maxLen:=yt8 (h k hk)
theorem CRows.ok {w w':World} {B:Nat} {g d:Nat->Nat} {ns:List Nd} {m:Ls} (h:CRows w B g d ns m) (hk:Ok w w'):CRows w' B g d ns m:=fun k h6=>za1 (h k h6) hk
end
section
open Go.RowKit
theorem yq1 {L:List Ed} {A Z:Nat} (h:Segs L A Z):L.length<=2*(Z-A):=by
 obtain ⟨bs,rfl,hn,hb⟩:=h
 have key:∀ (cs:List (List Ed)),(∀ c∈cs,c.length<=2)->cs.flatten.length<=2*cs.length:=by
  intro cs
  induction cs with
  | nil=>intro _;simp
  | cons c cs ih =>
   intro hc
   have h1:=hc c List.mem_cons_self
   have h2:=ih (fun d hd=>hc d (List.mem_cons_of_mem _ hd))
   rw [List.flatten_cons,List.length_append,List.length_cons]
   omega
 have:=key bs (fun c hc=>by
  obtain ⟨i,hi,e⟩:=List.mem_iff_getElem.1 hc
  rcases hb i c (by rw [List.getElem?_eq_getElem hi,e]) with ⟨x,rfl,_⟩ | ⟨x,y,rfl,_⟩<;>simp)
 omega
theorem yz9 {ns:List Nd} (h:TreeOK ns):(elF ns).length<=2*ptF ns ns.length:=by
 have:=yq1 (zC9 h).seg
 omega
end
section
open Go.RowKit Go.Maps
def lwG (ns:List Nd) (l:Ls):Option (Nat×Nat×List Ed):=if goodD ns l=true then some (ptF ns ns.length+1,ptF ns ns.length,elF ns) else none
theorem yv6 (v:Nat->Value) (ns:List Nd) (l:Ls) (w:World) (hR:RulesIs w) (hS:StepsIs w) (h:ProgIs w (v 0) (v 1) (v 2) (v 3) (v 4) (v 5) ns l) :
  Calls Tryz.prog 24 #[.agg #[v 0,v 1,v 2,v 3,v 4,v 5]] w fun e w'=>LwIs w (lwG ns l) e w':=by
 unfold lwG
 by_cases hg:goodD ns l=true
 ·rw [if_pos hg]
  refine (yu8 _ _ _ _ _ _ ns l w hR hS h hg).mono ?_
  rintro e w' ⟨u,ev,rfl,_,hu,hev,hk⟩
  obtain ⟨eo,ec,rfl⟩:=za0 hev
  refine ⟨⟨u,eo,ec,rfl,fun i hi=>?_,za7 hev (Nat.zero_le _)⟩,hk⟩
  obtain ⟨o,c,e⟩:=za0 (hu i hi)
  exact ⟨_,_,_,e⟩
 rw [if_neg hg]
 refine (yk8 _ _ _ _ _ _ ns l w hR h (by simpa using hg)).mono ?_
 rintro e w' ⟨rfl,hk⟩
 exact ⟨rfl,hk⟩
structure PEnv (w:World):Prop where
 rules:RulesIs w
 steps:StepsIs w
 tab:Lib.TabBelow Tryz.prog w.heap.size w "internal/strconv.uint64pow10" .u64 Lib.pow10Tab
 errC:∃ et eu,w.cell? ⟨1,0,none⟩=some (.iface et eu)
 errT:w.cell? ⟨0,0,none⟩=some (.iface 188 (.agg #[.pointer (some ⟨8,90,none⟩)]))
theorem PEnv.ok {w w':World} (h:PEnv w) (hk:Ok w w'):PEnv w':=by
 obtain ⟨et,eu,he⟩:=h.errC
 exact ⟨h.rules.below hk,h.steps.below hk,fun w2 h2=>h.tab w2 (Below.trans hk (h2.mono hk.le)),⟨et,eu,hk.cell (p:=⟨1,0,none⟩) (zi9 he) he⟩,hk.cell (p:=⟨0,0,none⟩) (zi9 h.errT) h.errT⟩
def badP (ns:List Nd) (l:Ls) (c:Nat->Int) (ts:List Int):Int:=if goodD ns l=true then refuse c ts else 2
def ptN (ns:List Nd):Nat:=ptF ns ns.length+1
def spR (ns:List Nd) (c:Nat->Int):List Int×List Vx×List Lk:=(runQ (c 2).toNat (c 0) (c 1) (elF ns) (ptN ns*(c 2).toNat+1) (ptN ns+1) []).getD ([],[],[])
theorem zm1 {ns:List Nd} {l:Ls} {c:Nat->Int} {ts:List Int} (h:badP ns l c ts=0):goodD ns l=true/\refuse c ts=0:=by
 unfold badP at h
 by_cases hg:goodD ns l=true
 ·rw [if_pos hg] at h;exact ⟨hg,h⟩
 rw [if_neg hg] at h;cases h
theorem zp8 {c:Nat->Int} {ts:List Int} (h:refuse c ts=0):0<=c 0/\c 0<=3/\0<=c 1/\c 1<=3/\1<=c 2/\c 2<=6:=by
 have h0:=zo0 h (k:=0) (by decide)
 have h1:=zo0 h (k:=1) (by decide)
 have h2:=zo0 h (k:=2) (by decide)
 simp only [limB,Bool.and_eq_true,decide_eq_true_eq] at h0 h1 h2
 omega
structure GrOK (ns:List Nd):Prop where
 tree:TreeOK ns
 len:ns.length<=300
 pts:ptN ns<=301
 els:(elF ns).length<=600
 frm:∀ e∈elF ns,0<=e.from'/\e.from'<(ptN ns:Int)
 wit:Within (ptN ns) (elF ns)
theorem gr_ok {ns:List Nd} {l:Ls} (hg:goodD ns l=true):GrOK ns:=by
 have h0:=zv7 hg
 have hT:=zN8 (zq4 h0)
 have hl:=(zj1 ns h0).2
 have h1:=zq9 ns ns.length
 have h2:=yz9 hT
 refine ⟨hT,hl,by unfold ptN;omega,by omega,fun e he=>?_,by unfold ptN;omega,fun e he=>?_⟩
 ·unfold ptN
  rcases (zC9 hT).pl e he with ⟨_,p,_,_,_,_,e2⟩ | ⟨p,_,_,_,_,_,e2⟩
  ·have:=zC8 ns p;omega
  have:=zC8 ns p;omega
 unfold ptN
 obtain ⟨t,e1,e2⟩:=(zC9 hT).to e he
 omega
theorem zK9 {ns:List Nd} {l:Ls} {c:Nat->Int} {ts:List Int} (h:badP ns l c ts=0):runQ (c 2).toNat (c 0) (c 1) (elF ns) (ptN ns*(c 2).toNat+1) (ptN ns+1) []=some (spR ns c):=by
 obtain ⟨hg,hr⟩:=zm1 h
 have hc:=zp8 hr
 obtain ⟨r,e⟩:=zE8 (H:=c 0) (U:=c 1) (f:=ptN ns*(c 2).toNat+1) (show 0<(c 2).toNat by omega) (gr_ok hg).wit (ptN ns+1) [] List.nodup_nil (fun n hn=>by cases hn) (by simp)
 unfold spR
 rw [e]
 rfl
theorem ye8 {ns:List Nd} {l:Ls} {c:Nat->Int} {ts:List Int} (h:badP ns l c ts=0):FI (plOf (c 2).toNat (c 0) (c 1) (elF ns) (spR ns c).1) (spR ns c).2.1.length (spR ns c).2.1 (spR ns c).2.2:=by
 obtain ⟨hg,hr⟩:=zm1 h
 have hc:=zp8 hr
 exact (zs8 (show 0<(c 2).toNat by omega) (gr_ok hg).wit (Nat.lt_succ_self _) (ptN ns+1) [] (spR ns c) List.nodup_nil (fun n hn=>by cases hn) (zK9 h)).2.2
theorem zu0 (v:Nat->Value) (c:Nat->Int) (ts:List Int) (tz:Option Addr) (tc:Nat) (ns:List Nd) (l:Ls) (w:World) (hE:PEnv w) (h:ProgIs w (v 0) (v 1) (v 2) (v 3) (v 4) (v 5) ns l) (hts:SL w 1 (.slice tz ts.length tc) ts.length (ilL ts)) :
  Calls Tryz.prog 5 #[.agg #[v 0,v 1,v 2,v 3,v 4,v 5],.agg #[.int .i64 (c 0),.int .i64 (c 1),.int .i64 (c 2),.int .i64 (c 3),.int .i64 (c 4),.int .i64 (c 5),.slice tz ts.length tc,.int .i64 (c 7),.int .i64 (c 8)]] w fun e w'=>SpG w (badP ns l c ts) (ptN ns) (spR ns c) e w':=by
 have hlw:∀ Y,Ok w Y->Calls Tryz.prog 24 #[.agg #[v 0,v 1,v 2,v 3,v 4,v 5]] Y fun e w'=>LwIs Y (lwG ns l) e w':=fun Y hY=>yv6 v ns l Y (hE.ok hY).rules (hE.ok hY).steps (h.below hY)
 have hck:∀ Y,Ok w Y->Calls Tryz.prog 26 #[.agg #[.int .i64 (c 0),.int .i64 (c 1),.int .i64 (c 2),.int .i64 (c 3),.int .i64 (c 4),.int .i64 (c 5),.slice tz ts.length tc,.int .i64 (c 7),.int .i64 (c 8)]] Y fun e w'=>CkIs Y (refuse c ts) e w':=fun Y hY=>by
  obtain ⟨et,eu,he⟩:=(hE.ok hY).errC
  exact zF8 c ts tz tc Y (hts.below hY) et eu he
 by_cases hg:goodD ns l=true
 ·have e1:lwG ns l=some (ptN ns,ptF ns ns.length,elF ns):=by unfold lwG ptN;rw [if_pos hg]
  rw [e1] at hlw
  by_cases hr:refuse c ts=0
  ·have hb:badP ns l c ts=0:=by unfold badP;rw [if_pos hg];exact hr
   have hc:=zp8 hr
   have hG:=gr_ok hg
   rw [hr] at hck
   refine (ye3 v c tz ts.length tc (ptN ns) (ptF ns ns.length) (elF ns) (spR ns c) w (fun Y hY=>zG2 v c ts tz tc _ _ _ Y (fun Z hZ=>hlw Z (hY.step hZ)) (fun Z hZ=>hck Z (hY.step hZ))) (fun Y a hY h6 hs hx he=>?_)).mono fun e w' hp=>.inr ⟨hb,hp⟩
   have e2:c 2=((c 2).toNat:Int):=by omega
   have:=yc8 a (ptN ns) (c 2).toNat (c 0) (c 1) (c 3) (c 4) (c 5) (c 7) (c 8) tz ts.length tc (elF ns) (spR ns c) Y h6 hs hx he ⟨by have:=hG.pts;omega,by omega,by have:=hG.els;omega⟩ hG.frm hG.wit (by omega) ⟨by omega,by omega⟩ (zK9 hb) (hE.ok hY).tab
   rw [<-e2] at this
   exact this
  have hb:badP ns l c ts=refuse c ts:=by unfold badP;rw [if_pos hg]
  refine (zx6 v c tz ts.length tc (refuse c ts) hr w (fun Y hY=>zV0 v c ts tz tc _ _ _ (refuse c ts) hr Y (hE.ok hY).errT (fun Z hZ=>hlw Z (hY.step hZ)) (fun Z hZ=>hck Z (hY.step hZ)))).mono ?_
  rintro e w' ⟨rfl,hk⟩
  exact .inl ⟨by rw [hb];exact hr,by rw [hb],hk⟩
 have e1:lwG ns l=none:=by unfold lwG;rw [if_neg hg]
 have hb:badP ns l c ts=2:=by unfold badP;rw [if_neg hg]
 rw [e1] at hlw
 refine (zx6 v c tz ts.length tc 2 (by decide) w (fun Y hY=>(zK6 v c ts tz tc 0 Y (fun Z hZ=>hlw Z (hY.step hZ))).mono fun e w' hp=>hp)).mono ?_
 rintro e w' ⟨rfl,hk⟩
 exact .inl ⟨by rw [hb];decide,by rw [hb],hk⟩
end
end Go.Proofs.YtbneneijdgcccaaGreatDoor
