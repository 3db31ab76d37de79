import Derived.DeepKeys4
import Derived.Test.YtpongdpnbclchaaGreatDoorKIh
set_option maxHeartbeats 8000000
set_option linter.all false
set_option maxRecDepth 100000
namespace Go.Proofs.YtpongdpnbclchaaGreatDoor
variable{N b:Nat}{ls:List Lk}{w:World}{x y:Int}
section
open Go.RowKit Go.Maps
def SpG(w:World)(r:Int)(N:Nat)(R:List Int×List Vx×List Lk)(e:Ending)(w':World):Prop :=
 (r≠0/\e=.returned (.tuple #[.agg #[sZ,sZ,sZ],nI r])/\Ok w w')\/(r=0/\wn9 w N R e w')
def FA(ls:List Lk)(x y:Int):Option Int:=ls.foldl (λo l=>if (l.1:Int)=x/\(l.2.2:Int)=y then some (l.2.1:Int) else o) none
theorem zt9(ls:List Lk)(l:Lk)(x y:Int):FA (ls++[l]) x y=if (l.1:Int)=x/\(l.2.2:Int)=y then some (l.2.1:Int) else FA ls x y:=by unfold FA;rw[List.foldl_append];rfl
theorem ye4{α:Type}{p:List α->Prop}(h0:p [])(h1:∀l x,p l->p (l++[x]))(l:List α):p l:=by
 have:∀m:List α,p m.reverse:=λm=>by
  induction m with
  | nil=>exact h0
  | cons a t ih=>rw[List.reverse_cons];exact h1 _ _ ih
 have h:=this l.reverse
 rwa [List.reverse_reverse]at h
theorem zx7{t:Int}(ls:List Lk):FA ls x y=some t->∃l∈ls,(l.1:Int)=x/\(l.2.2:Int)=y/\(l.2.1:Int)=t:=by
 refine ye4 (p:=λls=>FA ls x y=some t->∃l∈ls,(l.1:Int)=x/\(l.2.2:Int)=y/\(l.2.1:Int)=t) ?_ ?_ ls
 ·intro h;cases h
 intro ls l ih h;rw[zt9]at h;by_cases c:(l.1:Int)=x/\(l.2.2:Int)=y
 ·rw[if_pos c]at h
  injection h with h
  exact⟨l,by simp,c.1,c.2,h⟩
 rw[if_neg c]at h;obtain⟨m,hm,r⟩:=ih h;exact⟨m,List.mem_append_left _ hm,r⟩
theorem zV1(ls:List Lk):FA ls x y=none->∀l∈ls,¬((l.1:Int)=x/\(l.2.2:Int)=y):=by
 refine ye4 (p:=λls=>FA ls x y=none->∀l∈ls,¬((l.1:Int)=x/\(l.2.2:Int)=y)) ?_ ?_ ls
 ·intro _ l hl;cases hl
 intro ls l ih h;rw[zt9]at h;by_cases c:(l.1:Int)=x/\(l.2.2:Int)=y
 ·rw[if_pos c]at h;cases h
 rw[if_neg c]at h;intro m hm;rcases List.mem_append.1 hm with hm | hm
 ·exact ih h m hm
 rw[List.mem_singleton.1 hm];exact c
theorem zV2{p:Pl}{vs:List Vx}(h:FI p vs.length vs ls)(v:Nat)(k:Int):FA ls (v:Int) k=(goP ls v [k]).map λu:Nat=>(u:Int):=by
 rw[yy1]
 cases hl:FA ls (v:Int) k with
 | some t =>
  obtain⟨l,hm,h1,h2,h3⟩:=zx7 ls hl;have e1:l.1=v:=oM;have e2:k.toNat=l.2.2:=oM;rw[if_pos (by omega),e2,<-e1,h.next_some hm,<-h3];rfl
 | none =>
  have hn:=zV1 ls hl;by_cases c:0<=k
  ·rw[if_pos c]
   have:FE ls v k.toNat=none:=by unfold FE;rw[Option.map_eq_none_iff,List.find?_eq_none];intro l hm;have:=hn l hm;simp only[decide_eq_true_eq];omega
   rw[this];rfl
  rw[if_neg c];rfl
theorem yp9:Tryz.prog.keyType 99=true:=by kernel_rfl
theorem zp7:Tryz.prog.cellsOf 99=2/\Tryz.prog.cellsOf 3=1:=by refine⟨?_,?_⟩<;>kernel_rfl
theorem zQ6:Keyed Tryz.prog 99:=Keyed.of_law (deep_law_laid (by kernel_rfl) (m:=2) (by omega) (of_decide_eq_true (by kernel_rfl)) (by kernel_rfl) (by rw[Tryz.underlying99]))
theorem zQ7{a b:Int}(ha:(Lit.int .i64 a).wf=true)(hb:(Lit.int .i64 b).wf=true):∃kl,keyOf Tryz.prog 99 (.agg #[.int .i64 a,.int .i64 b])=some kl:=by
 obtain⟨m,hm⟩:∃m,Tryz.prog.types.size=m+1:=⟨_,(by kernel_rfl:Tryz.prog.types.size=(Tryz.prog.types.size-1)+1)⟩
 have h3:Tryz.prog.keyLits (m+1+1) 99 [.int .i64 a,.int .i64 b]=some [.int .i64 a,.int .i64 b]:=by simp[Program.keyLits,Tryz.underlying99,Tryz.underlying3,zp7.1,zp7.2,ha,hb]
 refine⟨.string (keyBytes [.int .i64 a,.int .i64 b]),?_⟩;unfold keyOf;rw[Tryz.underlying99];simp only[yp9,Value.formed,Tryz.underlying99,zp7.1,hm,Value.cells];simp[h3]
def EQ(w:World)(b N:Nat)(ls:List Lk):Prop:=∃f,CH w 99 b N f/\∀x y:Int,f (.agg #[nI x,nI y])=FA ls x y
theorem EQ.ok{w':World}(h:EQ w b N ls)(hk:Ok w w'):EQ w' b N ls:=by obtain⟨f,h1,h2⟩:=h;exact⟨f,h1.ok hk,h2⟩
theorem EQ.look(h:EQ w b N ls)(hx:(Lit.int .i64 x).wf=true)(hy:(Lit.int .i64 y).wf=true) :
  (Instr.lookup 95 (.map (some b)) (.agg #[nI x,nI y]) true).run Tryz.prog w=.ok (.tuple #[nI ((FA ls x y).getD 0),.bool (FA ls x y).isSome]) w:=by
 obtain⟨f,h1,h2⟩:=h;obtain⟨kl,hk⟩:=zQ7 hx hy;rw[<-h2];exact h1.look_ok zQ6 Tryz.underlying95 hk
theorem EQ.put(h:EQ w b N ls)(l:Lk)(hx:l.1<=1000000)(hy:l.2.2<=1000000)(ht:l.2.1<=1000000)(hN:N<=2000000) :
  ∃w',(Instr.mapUpdate 95 (.map (some b)) (.agg #[nI (l.1:Nat),nI (l.2.2:Nat)]) (nI (l.2.1:Nat))).run Tryz.prog w=.ok () w'/\EQ w' b (N+1) (ls++[l])/\w.grownBy w' (some b):=by
 obtain⟨f,h1,h2⟩:=h;obtain⟨kl,hk⟩:=zQ7 (a:=(l.1:Int)) (b:=(l.2.2:Int)) (gwf oM oM) (gwf oM oM)
 classical
 obtain⟨w',r1,r2,r3⟩:=h1.put (f':=λu=>if u=.agg #[nI (l.1:Nat),nI (l.2.2:Nat)] then some (l.2.1:Int) else f u) zQ6 Tryz.underlying95 hk (y:=(l.2.1:Int)) oM oM (by unfold maxLen;omega) (by simp) (λu hu=>by simp[hu]);refine⟨w',r1,⟨_,r2,λx y=>?_⟩,r3⟩;rw[zt9,<-h2];by_cases c:(l.1:Int)=x/\(l.2.2:Int)=y
 ·rw[if_pos c,c.1,c.2];simp
 rw[if_neg c,if_neg];intro e
 injection e with e
 simp only[Array.mk.injEq,List.cons.injEq,Value.int.injEq,true_and,and_true]at e;exact c ⟨e.1.symm,e.2.symm⟩
end
section
open Go.RowKit Go.Maps
def LkB(ls:List Lk):Prop:=ls.length<=2000000/\∀l∈ls,l.1<=1000000/\l.2.1<=1000000/\l.2.2<=1000000
theorem zK7(n:Int)(w:World):(Instr.makeMap 95 (some (nI n))).run Tryz.prog w=.ok (.map (some w.heap.size)) (w.alloc (.map #[] 0)):=by simp[Instr.makeMap,run_underlying Tryz.underlying95,asInt,asIntOf,Result.andThen]
theorem EQ.made(w:World):EQ (w.alloc (.map #[] 0)) w.heap.size 0 []:=⟨_,CH.made w _,λ_ _=>rfl⟩
theorem zm0{α:Type}{l:List α}{k:Nat}{x:α}(h:l[k]?=some x):l.take (k+1)=l.take k++[x]:=by rw[List.take_add_one,h];rfl
theorem ye5(B:Nat)(lv:Value)(ls:List Lk)(w:World)(h:w.ownsRow B 144 3 lv ls.length (lkL ls))(hl:LkB ls) :
  Calls Tryz.prog 37 #[lv] w λe w'=>∃b:Nat,e=.returned (.map (some b))/\EQ w' b ls.length ls/\Ok w w':=by
 have HO:=hid h;have HL:=hid hl;obtain⟨ao,cap,rfl⟩:=za0 h;obtain⟨N,hN⟩:=qq (ls.length);have HN:Hi (N=ls.length/\N<=2000000):=⟨hN,by rw[hN];exact hl.1⟩;rw[<-hN]at HO ⊢;have hNp:¬(N:Int)<0:=oM;clear h hl hN;have hmk:=zK7 (N:Int) w;go_enter Tryz.func37,Tryz.ntmps37;go_wp2_with fail;obtain⟨W,hW⟩:=qq (w.alloc (.map #[] 0));obtain⟨b,hb⟩:=qq (w.heap.size);rw[<-hW,<-hb];have HK0:Hi (Ok w W):=by rw[hW];exact(Ok.refl w).alloc _
 have HT0:Hi (EQ W b 0 []):=by rw[hW,hb];exact EQ.made w
 have HB:=hid hb.symm;clear hW hb hmk;go_loopw [11] (λi wr=>∃k:Nat,i=nI (k:Nat)/\k<=N/\Hi (EQ wr b k (ls.take k))/\Hi (Ok w wr)) (λi _=>N-(intOf i).toNat)
 case atStart=>exact⟨0,rfl,zL_ _,HT0,HK0⟩
 obtain⟨k,rfl,hk,HT,HK⟩:=hrel;by_cases hkl:k<N
 ·have hkl':(k:Int)<(N:Int):=za5 hkl
  have hkw:IntKind.i64.wrap ((k:Int)+1)=((k+1:Nat):Int):=zb3 (by have:=HN.o;omega);obtain⟨l,hl⟩:∃l,ls[k]?=some l:=⟨_,gG_ (by have:=HN.o;omega)⟩;obtain⟨x,y,z⟩:=l;have HLK:=hid (zm0 hl);have HLB:Hi (x<=1000000/\y<=1000000/\z<=1000000):=HL.o.2 _ (mG_ hl);have ho:=za1 HO.o HK.o;obtain⟨g,cp,e1,_⟩:=ho.form oM
  injection e1 with e1 _ _
  subst e1;obtain⟨q0,q1,q2⟩:=zA3 hl;have c0:=ho.cells (g:=g) rfl _ _ q0;have c1:=ho.cells (g:=g) rfl _ _ q1;have c2:=ho.cells (g:=g) rfl _ _ q2;rw[zb7,Nat.zero_add]at c0 c1 c2;have hgl:=(ho.lt g rfl).2;obtain⟨w2,hput,HT2,HG2⟩:=(HT.o.ok ((Ok.refl wr).alloc (Obj.cells #[nI (x:Nat),nI (y:Nat),nI (z:Nat)] 144))).put (x,y,z) HLB.o.1 HLB.o.2.2 HLB.o.2.1 (by have:=HN.o;omega);clear ho hl q0 q1 q2;go_wp2_with fail;refine⟨⟨k+1,rfl,hkl,by rw[HLK.o];exact HT2,(HK.o.alloc _).grown HG2 (λb' e=>by injection e with e;rw[<-e];exact Nat.le_of_eq HB.o)⟩,?_⟩;simp only[intOf,Int.toNat_natCast];omega
 have hkl':¬(k:Int)<(N:Int):=oM;have hke:k=ls.length:=by have:=HN.o;omega
 have HTE:Hi (EQ wr b ls.length ls):=by have h:=HT.o;rw[hke,List.take_length]at h;exact h
 have HNN:Hi (N=ls.length):=HN.o.1;clear hke;go_wp2_with fail;go_ret;exact⟨b,rfl,by rw[HNN.o];exact HTE.o,HK.o⟩
end
section
open Go.RowKit Go.Maps
def flV(r:Int)(ls:List Lk)(path:List Int):Int×Int:=if r=0 then (match goP ls 0 path with | some u=>((u:Int),0) | none=>(0,1)) else (0,r)
theorem zQ8{u:Nat}{path:List Int}{k:Nat}(h:path[k]?=some y):goP ls u (path.drop k)=(goP ls u [y]).bind λt=>goP ls t (path.drop (k+1)):=by obtain⟨hk,e⟩:=List.getElem?_eq_some_iff.1 h;rw[List.drop_eq_getElem_cons hk,e];exact yb5 ls u [y] _
theorem zV3(v:Nat->Value)(c:Nat->Int)(tz:Option Addr)(tn tc:Nat)(pv:Value)(r:Int)(N:Nat)(R:List Int×List Vx×List Lk)(w:World)(hr:r≠0)
  (hS:∀Y,Ok w Y->Calls Tryz.prog 19 #[.agg #[v 0,v 1,v 2,v 3,v 4,v 5],.agg #[nI (c 0),nI (c 1),nI (c 2),nI (c 3),nI (c 4),nI (c 5),.slice tz tn tc,nI (c 7),nI (c 8)]] Y λe w'=>SpG Y r N R e w') :
  Calls Tryz.prog 20 #[.agg #[v 0,v 1,v 2,v 3,v 4,v 5],.agg #[nI (c 0),nI (c 1),nI (c 2),nI (c 3),nI (c 4),nI (c 5),.slice tz tn tc,nI (c 7),nI (c 8)],pv] w λe w'=>e=.returned (.tuple #[nI 0,nI r])/\Ok w w':=by
 have HS:=hid hS;have HR:=hid hr;have hrb:(r != 0)=true:=bne_iff_ne.2 hr;clear hS hr;go_enter Tryz.func20,Tryz.ntmps20;go_wp2_with fail;refine(HS.o _ (((Ok.refl w).alloc _).alloc _)).mono ?_;rintro e w1 hv;obtain⟨rfl,hk⟩:e=.returned (.tuple #[.agg #[sZ,sZ,sZ],nI r])/\Ok _ w1:=hv.elim (λh=>h.2) (λh=>absurd h.1 HR.o);have HK:Hi (Ok w w1):=(((Ok.refl w).alloc _).alloc _).step hk;clear hv hk;go_wp2_with fail;(try simp only[Exit.inBlock,Exit.then]);refine bodyPost_ret (results_tmp2 rfl _ _ _) rfl ?_;exact⟨rfl,HK.o.alloc _⟩
theorem ye6(v:Nat->Value)(c:Nat->Int)(tz:Option Addr)(tn tc:Nat)(pv:Value)(path:List Int)(N:Nat)(R:List Int×List Vx×List Lk)(p:Pl)(w:World)(hF:FI p R.2.1.length R.2.1 R.2.2)(hL:LkB R.2.2)
  (hp:SL w 1 pv path.length (ilL path)) (hpl:path.length<=4000000000000000000) (hpw:∀y∈path,(Lit.int .i64 y).wf=true)
  (hS:∀Y,Ok w Y->Calls Tryz.prog 19 #[.agg #[v 0,v 1,v 2,v 3,v 4,v 5],.agg #[nI (c 0),nI (c 1),nI (c 2),nI (c 3),nI (c 4),nI (c 5),.slice tz tn tc,nI (c 7),nI (c 8)]] Y λe w'=>SpG Y 0 N R e w') :
  Calls Tryz.prog 20 #[.agg #[v 0,v 1,v 2,v 3,v 4,v 5],.agg #[nI (c 0),nI (c 1),nI (c 2),nI (c 3),nI (c 4),nI (c 5),.slice tz tn tc,nI (c 7),nI (c 8)],pv] w λe w'=>e=.returned (.tuple #[nI (flV 0 R.2.2 path).1,nI (flV 0 R.2.2 path).2])/\Ok w w':=by
 have HS:=hid hS;have HF:=hid hF;have HL:=hid hL;have HP:=hid hp;have HPW:=hid hpw;obtain⟨_,_,po,pc,rfl,_⟩:=hp;obtain⟨n,hn⟩:=qq (path.length);have HN:Hi (n=path.length/\n<=4000000000000000000):=⟨hn,by omega⟩;rw[<-hn]at HP ⊢;clear hF hL hpl hpw hS hn;go_enter Tryz.func20,Tryz.ntmps20;go_wp2_with fail;refine(HS.o _ (((Ok.refl w).alloc _).alloc _)).mono ?_;rintro e w1 hv;have hv2:wn9 _ N R e w1:=hv.elim (λh=>absurd rfl h.1) (λh=>h.2);obtain⟨vv,lv,mv,rfl,⟨tl,_,hvv,_⟩,hlv,hmv,hk1⟩:=hv2;have HK1:Hi (Ok w w1):=(((Ok.refl w).alloc _).alloc _).step hk1;have HLV:Hi (w1.ownsRow 0 144 3 lv R.2.2.length (lkL R.2.2)):=za7 hlv (zL_ _);obtain⟨vo,vc,rfl⟩:=za0 hvv;obtain⟨lo,lc,rfl⟩:=za0 hlv;obtain⟨mo,mc,rfl⟩:=za0 hmv;obtain⟨vn,hvn⟩:=qq (R.2.1.length);obtain⟨ln,hln⟩:=qq (R.2.2.length);obtain⟨mn,hmn⟩:=qq ((mgL N R.1).length);rw[<-hvn,<-hln,<-hmn];have HLN:Hi (ln=R.2.2.length):=hln;rw[<-hln]at HLV;clear hv hk1 hlv hvv hmv hvn hln hmn;go_wp2_with fail;refine(ye5 0 _ R.2.2 _ (by rw[<-HLN.o];exact za1 HLV.o ((Ok.refl _).alloc _)) HL.o).mono ?_;rintro e w2 ⟨b,rfl,ht,hk2⟩;have HK2:Hi (Ok w w2):=(HK1.o.alloc _).step hk2;have HT:=hid ht;clear ht hk2;go_wp2_with fail;go_loopw [11,30] (λt i wr=>∃(k u:Nat),i=nI (k:Nat)/\t=nI (u:Nat)/\k<=n/\Hi (goP R.2.2 0 path=goP R.2.2 u (path.drop k))/\Hi (u<=1000000)/\Hi (Ok w2 wr)) (λ_ i _=>n-(intOf i).toNat)
 case atStart=>exact⟨0,0,rfl,rfl,zL_ _,rfl,zL_ _,Ok.refl _⟩
 obtain⟨k,u,rfl,rfl,hk,HG,HU,HK⟩:=hrel;by_cases hkl:k<n
 ·have hkl':(k:Int)<(n:Int):=za5 hkl
  have hkw:IntKind.i64.wrap ((k:Int)+1)=((k+1:Nat):Int):=by rw[IntKind.wrap_i64];have:=HN.o;omega
  obtain⟨y,hy⟩:∃y,path[k]?=some y:=⟨_,gG_ (by have:=HN.o;omega)⟩;have HY:=hid hy;obtain⟨_,_,po',pc',e1,h2⟩:=HP.o.below (HK2.o.step HK.o)
  injection e1 with e1 _ e3
  subst e1;obtain⟨pb,pf,e4,hpb,hpc⟩:=h2.resolve_left oM;subst e4;have c0:=hpc k (nI y) (zk6 hy);have hlk:=(HT.o.ok HK.o).look (x:=(u:Int)) (y:=y) (gwf (by have:=HU.o;omega) (by have:=HU.o;omega)) (HPW.o y (mG_ hy));have hst:FA R.2.2 (u:Int) y=(goP R.2.2 u [y]).map λu:Nat=>(u:Int):=zV2 HF.o u y;clear hpc h2 hy e3
  cases hg:goP R.2.2 u [y] with
  | some t =>
   rw[hg]at hst;have hst2:FA R.2.2 (u:Int) y=some (t:Int):=hst;rw[hst2]at hlk
   have HT1:Hi (t<=1000000):=by obtain⟨l,hm,_,_,h3⟩:=zx7 _ hst2;have:=(HL.o.2 l hm).2.1;unfold Hi;omega
   have HG2:Hi (goP R.2.2 0 path=goP R.2.2 t (path.drop (k+1))):=by unfold Hi;rw[HG.o,zQ8 HY.o,hg];rfl
   simp only[Option.getD_some,Option.isSome_some]at hlk;clear hst hst2 hg HG;go_wp2_with fail;refine⟨⟨k+1,t,rfl,rfl,hkl,HG2,HT1,HK⟩,?_⟩;simp only[intOf,Int.toNat_natCast];omega
  | none =>
   rw[hg]at hst;have hst2:FA R.2.2 (u:Int) y=none:=hst;rw[hst2]at hlk;have HG2:Hi (flV 0 R.2.2 path=(0,1)):=by unfold Hi flV;rw[if_pos rfl,HG.o,zQ8 HY.o,hg];rfl
   simp only[Option.getD_none,Option.isSome_none]at hlk;clear hst hst2 hg HG;go_wp2_with fail;(try simp only[Exit.inBlock,Exit.then]);refine bodyPost_ret (results_tmp2 rfl _ _ _) rfl ?_;rw[HG2.o];exact⟨rfl,HK2.o.step HK.o⟩
 have hkl':¬(k:Int)<(n:Int):=oM;have HG2:Hi (flV 0 R.2.2 path=((u:Int),0)):=by unfold Hi flV;rw[if_pos rfl,HG.o,List.drop_of_length_le (by have:=HN.o;omega)];rfl
 clear HG;go_wp2_with fail;(try simp only[Exit.inBlock,Exit.then]);refine bodyPost_ret (results_tmp2 rfl _ _ _) rfl ?_;rw[HG2.o];exact⟨rfl,HK2.o.step HK.o⟩
end
end Go.Proofs.YtpongdpnbclchaaGreatDoor
