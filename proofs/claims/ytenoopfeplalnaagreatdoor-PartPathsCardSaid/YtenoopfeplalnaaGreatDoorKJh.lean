import Derived.Deep.CutBlock
import Derived.Test.YtenoopfeplalnaaGreatDoorKJd
set_option linter.all false
namespace Go.Proofs.YtenoopfeplalnaaGreatDoor
open Go.RowKit Go.Maps
def outL (ls:List Lk) (u k:Nat):List Lk:=(ls.take k).filter fun l=>decide (l.1=u)
theorem zF0 {ls:List Lk} {u k:Nat} {l:Lk} (h:ls[k]?=some l):outL ls u (k+1)=outL ls u k++if l.1=u then [l] else []:=by
 unfold outL
 rw [zE9 h,List.filter_append]
 congr 1
 by_cases c:l.1=u
 ·rw [if_pos c];simp [c]
 ·rw [if_neg c];simp [c]
theorem yy5 (ls:List Lk) (u k:Nat):(outL ls u k).length<=k:=by
 unfold outL
 refine Nat.le_trans (List.length_filter_le _ _) ?_
 rw [List.length_take];omega
theorem yo8 {ls:List Lk} {u k:Nat} {l:Lk} (h:l∈outL ls u k):l∈ls/\l.1=u:=by
 unfold outL at h
 obtain ⟨h1,h2⟩:=List.mem_filter.1 h
 exact ⟨List.mem_of_mem_take h1,of_decide_eq_true h2⟩
def PthR (X:World) (ls:List Lk) (vs:List Vx) (i:Nat) (t12 t13:Value) (wr:World):Prop:=∃ (u:Nat) (path:List Int) (ao:Option Addr) (cap:Nat),t12=.int .i64 (u:Nat)/\t13=.slice ao path.length cap/\path.length<=i/\goP ls 0 path=some u/\u<vs.length/\(∀ y∈path,0<=y/\y<=1000000)/\wr.ownsRow X.heap.size 3 1 (.slice ao path.length cap) path.length (ilL path)/\Ok X wr
def LkI (Y:World) (ls:List Lk) (u ln:Nat) (t15 t16:Value) (wr:World):Prop:=∃ (k:Nat) (oo:Option Addr) (oc:Nat),t16=.int .i64 (k:Nat)/\t15=.slice oo (outL ls u k).length oc/\k<=ln/\wr.ownsRow Y.heap.size 43 3 (.slice oo (outL ls u k).length oc) (outL ls u k).length (lkL (outL ls u k))/\Ok Y wr
theorem yC1 {v:Int} (h:(Lit.int .i64 v).wf=true) : -9223372036854775808<=v/\v<=9223372036854775807:=by
 simp only [Lit.wf,IntKind.min,IntKind.max,Bool.and_eq_true,decide_eq_true_eq] at h
 exact ⟨by simpa [IntKind.signed,IntKind.bits] using h.1,by simpa [IntKind.signed,IntKind.bits] using h.2⟩
theorem yu2 (y:Int) {n:Nat} (hn:0<n) : -(n:Int)<y.tmod (n:Int)/\y.tmod (n:Int)<(n:Int):=by
 have h1:(y.tmod (n:Int)).natAbs<n:=by
  rw [Int.natAbs_tmod y (n:Int)]
  simpa using Nat.mod_lt y.natAbs hn
 omega
theorem yC2 {path:List Int} {z:Nat} (h:∀ y∈path,0<=y/\y<=1000000) (hz:z<=1000000):∀ y∈path++[(z:Int)],0<=y/\y<=1000000:=fun y hy=>by
 rcases List.mem_append.1 hy with hy | hy
 ·exact h y hy
 ·rw [List.mem_singleton.1 hy];omega
def jnB (es:List Ed) (nd:Int) (k:Int):Bool:=decide (0<=k)&&(match es[k.toNat]? with | some e=>e.from'==nd | none=>false)
theorem zP2 {W D:World} (h:Ok W D):∃ (E:World) (g:Nat),(D.alloc (Obj.cells #[] 3)=E/\D.heap.size=g)/\Hid (Ok D E)/\Hid (E.ownsRow W.heap.size 3 1 (.slice (some ⟨g,0,none⟩) 0 0) 0 [])/\Hid (D.heap.size<=g) :=
 ⟨_,_,⟨rfl,rfl⟩,(Ok.refl D).alloc _,zG6 D W.heap.size 3 1 h.le,Nat.le_refl _⟩
theorem yd5 (D:World) (y:Int):∃ (E:World) (g:Nat),(D.alloc (Obj.cells #[.int .i64 y] 3)=E/\D.heap.size=g)/\Hid (Ok D E)/\Hid (E.heap[g]?=some (.cells #[.int .i64 y] 3 (0,0)))/\Hid (D.heap.size<=g) :=
 ⟨_,_,⟨rfl,rfl⟩,(Ok.refl D).alloc _,za4 _ _,Nat.le_refl _⟩
theorem yC3 {E:World} {g:Nat} {y:Int} (h:E.heap[g]?=some (.cells #[.int .i64 y] 3 (0,0))):SL E 1 (.slice (some ⟨g,0,none⟩) 1 1) 1 [.int .i64 y]:=by
 refine ⟨rfl,by simp [Value.oneCell'],_,1,rfl,.inr ⟨g,0,rfl,za2 h,fun j u hj=>?_⟩⟩
 rw [Nat.zero_add]
 exact (cell_of_row _ _ j _ _ _ h).trans (by simpa using hj)
theorem yC4 {path:List Int} {k:Int} (h:∀ y∈path,(Lit.int .i64 y).wf=true) (hk:(Lit.int .i64 k).wf=true):∀ y∈path++[k],(Lit.int .i64 y).wf=true:=fun y hy=>by
 rcases List.mem_append.1 hy with hy | hy
 ·exact h y hy
 ·rw [List.mem_singleton.1 hy];exact hk
theorem yo9 {p:Pl} {vs:List Vx} {ls:List Lk} {es:List Ed} {u:Nat} {nd:Vx} {path:List Int} (hF:FI p vs.length vs ls) (he:p.es=es) (hv:vs[u]?=some nd) (hg:goP ls 0 path=some u) (k:Int) :
  (jnB es nd.1 k=true/\(flV 0 ls (path++[k])).2=0)\/(jnB es nd.1 k=false/\(flV 0 ls (path++[k])).2=1):=by
 have e1:goP ls 0 (path++[k])=if 0<=k then nextV ls u k.toNat else none:=by
  rw [zz2,hg]
  exact zI3 ls u k
 unfold flV
 rw [if_pos rfl,e1]
 unfold jnB
 by_cases h0:0<=k
 ·rw [if_pos h0,decide_eq_true h0]
  have hj:=hF.joins (k:=k.toNat) hv
  rw [he] at hj
  cases hn:nextV ls u k.toNat with
  | some t =>
   obtain ⟨e,h1,h2⟩:=hj.1 ⟨t,hn⟩
   rw [h1]
   exact .inl ⟨by simp [h2],rfl⟩
  | none =>
   refine .inr ⟨?_,rfl⟩
   cases hq:es[k.toNat]? with
   | none=>rfl
   | some e =>
    by_cases c:e.from'=nd.1
    ·obtain ⟨t,ht⟩:=hj.2 ⟨e,hq,c⟩
     rw [hn] at ht;cases ht
    ·simp [c]
 ·rw [if_neg h0,decide_eq_false h0]
  exact .inr ⟨rfl,rfl⟩
theorem zT3 (w:World):∃ (E:World) (g:Nat),((w.alloc (Obj.cells #[] 3)).drew=E/\w.heap.size=g)/\Hid (Ok w E)/\Hid (E.ownsRow w.heap.size 3 1 (.slice (some ⟨g,0,none⟩) 0 0) 0 []) :=
 ⟨_,_,⟨rfl,rfl⟩,Below.drew ((Ok.refl w).alloc _),za1 (zG6 w w.heap.size 3 1 (Nat.le_refl _)) (Below.drew (Ok.refl _))⟩
theorem yy6 (y:Int) {n:Nat} (hn:0<n):∃ m:Nat,(if y.tmod (n:Int)<0 then y.tmod (n:Int)+(n:Int) else y.tmod (n:Int))=(m:Int)/\m<n:=by
 have h1:(y.tmod (n:Int)).natAbs<n:=by
  have:=Int.natAbs_tmod y (n:Int)
  rw [this]
  simpa using Nat.mod_lt y.natAbs hn
 by_cases c:y.tmod (n:Int)<0
 ·rw [if_pos c];exact ⟨(y.tmod (n:Int)+(n:Int)).toNat,by omega,by omega⟩
 ·rw [if_neg c];exact ⟨(y.tmod (n:Int)).toNat,by omega,by omega⟩
structure PLaw (W:World) (v:Nat->Value) (c:Nat->Int) (tz:Option Addr) (tn tc:Nat) (r:Int) (N x:Nat) (R:List Int×List Vx×List Lk) (es:List Ed):Prop where
 sp:∀ Z,Ok W Z->Calls Tryz.prog 5 #[.agg #[v 0,v 1,v 2,v 3,v 4,v 5],.agg #[.int .i64 (c 0),.int .i64 (c 1),.int .i64 (c 2),.int .i64 (c 3),.int .i64 (c 4),.int .i64 (c 5),.slice tz tn tc,.int .i64 (c 7),.int .i64 (c 8)]] Z fun e w'=>SpG Z r N R e w'
 fo:∀ Z pv path,Ok W Z->SL Z 1 pv path.length (ilL path)->path.length<=100->(∀ y∈path,(Lit.int .i64 y).wf=true)->Calls Tryz.prog 6 #[.agg #[v 0,v 1,v 2,v 3,v 4,v 5],.agg #[.int .i64 (c 0),.int .i64 (c 1),.int .i64 (c 2),.int .i64 (c 3),.int .i64 (c 4),.int .i64 (c 5),.slice tz tn tc,.int .i64 (c 7),.int .i64 (c 8)],pv] Z fun e w'=>e=.returned (.tuple #[.int .i64 (flV r R.2.2 path).1,.int .i64 (flV r R.2.2 path).2])/\Ok Z w'
 lo:r=0->∀ Z,Ok W Z->Calls Tryz.prog 8 #[.agg #[v 0,v 1,v 2,v 3,v 4,v 5]] Z fun e w'=>∃ ev:Value,e=.returned (.tuple #[.agg #[v 0,v 1,v 2,v 3,v 4,v 5,.int .i64 (N:Nat),.int .i64 (x:Nat),ev],.int .i64 0])/\w'.ownsRow Z.heap.size 51 6 ev es.length (edL es)/\Ok Z w'
 tk:∀ Z,Ok W Z->Calls Tryz.prog 7 #[] Z fun e w'=>e=.returned (.bool true)/\Ok Z w'
def PrgIs (w:World) (c:Nat->Int) (tz:Option Addr) (tn tc:Nat) (e:Ending) (w':World):Prop:=∃ (v:Nat->Value) (r:Int) (N x:Nat) (R:List Int×List Vx×List Lk) (es:List Ed) (p:Pl),e=.returned (.agg #[v 0,v 1,v 2,v 3,v 4,v 5])/\(∀ i,i<6->∃ ao n c,v i=.slice ao n c)/\Ok w w'/\PLaw w' v c tz tn tc r N x R es/\(r=0->FI p R.2.1.length R.2.1 R.2.2/\LkB R.2.2/\0<R.2.1.length/\R.2.1.length<=2000/\p.es=es/\es.length<=600)
set_option maxRecDepth 100000 in
set_option maxHeartbeats 8000000 in
theorem yd6 (s:ByteArray) (c:Nat->Int) (tz:Option Addr) (tn tc:Nat) (pv:Value) (picks:List Int) (w:World)
  (hP:∀ Y,Ok w Y->Calls Tryz.prog 4 #[.string s,.int .i64 0] Y fun e w'=>PrgIs Y c tz tn tc e w')
  (hp:SL w 1 pv picks.length (ilL picks)) (hpw:∀ y∈picks,(Lit.int .i64 y).wf=true) :
  Calls Tryz.prog 3 #[.string s,.agg #[.int .i64 (c 0),.int .i64 (c 1),.int .i64 (c 2),.int .i64 (c 3),.int .i64 (c 4),.int .i64 (c 5),.slice tz tn tc,.int .i64 (c 7),.int .i64 (c 8)],pv] w fun e w'=>e=.returned (.bool true)/\Ok w w':=by
 have HP:=hid hP
 have HPK:=hid hp
 have HPW:=hid hpw
 obtain ⟨_,_,po,pc,rfl,_⟩:=hp
 obtain ⟨pn,hpn⟩:∃ n,n=picks.length:=⟨_,rfl⟩
 have HPN:Hid (pn=picks.length):=hpn
 rw [<-hpn] at HPK ⊢
 clear hP hpw hpn
 go_enter Tryz.func3,Tryz.ntmps3
 go_wp2_with fail
 refine (HP.out _ ((Ok.refl w).alloc _)).mono ?_
 rintro e w1 ⟨v,r,N,x,R,es,p,rfl,hsl,hk1,hlaw,hF⟩
 obtain ⟨g0,n0,k0,g1,n1,k1,g2,n2,k2,g3,n3,k3,g4,n4,k4,g5,n5,k5,e0,e1,e2,e3,e4,e5⟩:=slices6 hsl
 obtain ⟨hsp,hfo,hlo,htk⟩:=hlaw
 rw [e0,e1,e2,e3,e4,e5] at hsp hfo hlo
 rw [e0,e1,e2,e3,e4,e5]
 have HSP:=hid hsp
 have HFO:=hid hfo
 have HLO:=hid hlo
 have HTK:=hid htk
 have HC1:Hid (w1.heap[w.heap.size]?=some (.cells #[.int .i64 (c 0),.int .i64 (c 1),.int .i64 (c 2),.int .i64 (c 3),.int .i64 (c 4),.int .i64 (c 5),.slice tz tn tc,.int .i64 (c 7),.int .i64 (c 8)] 24 (0,0))):=Ok.row' hk1 (za4 _ _)
 have HK1:Hid (Ok w w1):=((Ok.refl w).alloc _).step hk1
 have HF:=hid hF
 obtain ⟨gC,hgC⟩:∃ g,g=w.heap.size:=⟨_,rfl⟩
 rw [<-hgC] at HC1 ⊢
 obtain ⟨p0,p1,p2,p3,p4,p5,p6,p7,p8,lgp⟩:=row9 HC1.out
 clear hsl hk1 hsp hfo hlo htk hF e0 e1 e2 e3 e4 e5 hgC HP
 go_wp2_with fail
 obtain ⟨W,hW⟩:∃ z,z=w1.alloc (Obj.cells #[.slice g0 n0 k0,.slice g1 n1 k1,.slice g2 n2 k2,.slice g3 n3 k3,.slice g4 n4 k4,.slice g5 n5 k5] 30):=⟨_,rfl⟩
 obtain ⟨gP,hgP⟩:∃ g,g=w1.heap.size:=⟨_,rfl⟩
 rw [<-hW,<-hgP]
 have HKW:Hid (Ok w1 W):=by unfold Hid;rw [hW];exact (Ok.refl _).alloc _
 have HCW:Hid (W.heap[gC]?=some (.cells #[.int .i64 (c 0),.int .i64 (c 1),.int .i64 (c 2),.int .i64 (c 3),.int .i64 (c 4),.int .i64 (c 5),.slice tz tn tc,.int .i64 (c 7),.int .i64 (c 8)] 24 (0,0))):=Ok.row' HKW.out HC1.out
 have HPW2:Hid (W.heap[gP]?=some (.cells #[.slice g0 n0 k0,.slice g1 n1 k1,.slice g2 n2 k2,.slice g3 n3 k3,.slice g4 n4 k4,.slice g5 n5 k5] 30 (0,0))):=by unfold Hid;rw [hW,hgP];exact za4 _ _
 clear hW hgP p0 p1 p2 p3 p4 p5 p6 p7 p8 lgp HC1
 refine (HSP.out W HKW.out).mono ?_
 rintro e w2 hv
 by_cases hr:r=0
 rotate_left
 ·have HR:Hid (r≠0):=hr
  obtain ⟨rfl,hk⟩:e=.returned (.tuple #[.agg #[.slice none 0 0,.slice none 0 0,.slice none 0 0],.int .i64 r])/\Ok W w2:=hv.elim (fun h=>h.2) (fun h=>absurd h.1 HR.out)
  have hrb:(r != 0)=true:=bne_iff_ne.2 hr
  have HKX:Hid (Ok W w2):=hk
  clear hv hk hr
  obtain ⟨p0,p1,p2,p3,p4,p5,p6,p7,p8,lgp⟩:=row9 (Ok.row' HKX.out HCW.out)
  obtain ⟨q0,q1,q2,q3,q4,q5,lgq⟩:=row6 (Ok.row' HKX.out HPW2.out)
  go_wp2_with fail
  refine (HFO.out _ _ [] ((HKW.out.step HKX.out).alloc _) ⟨rfl,fun u hu=>(by cases hu),none,0,rfl,.inl rfl⟩ (by simp) (fun y hy=>(by cases hy))).mono ?_
  rintro e w3 ⟨rfl,hk3⟩
  have HF0:Hid (flV r R.2.2 []=(0,r)):=by unfold Hid flV;rw [if_neg HR.out]
  rw [HF0.out]
  have HK3:Hid (Ok w1 w3):=((HKW.out.step HKX.out).alloc _).step hk3
  clear hk3 p0 p1 p2 p3 p4 p5 p6 p7 p8 lgp q0 q1 q2 q3 q4 q5 lgq
  go_wp2_with fail
  refine (HTK.out _ HK3.out).mono ?_
  rintro e w4 ⟨rfl,hk4⟩
  have HK4:Hid (Ok w w4):=(HK1.out.step HK3.out).step hk4
  clear hk4
  go_wp2_with fail
  go_ret
  exact ⟨rfl,HK4.out⟩
 ·subst hr
  obtain ⟨hF1,hLB,hV0,hV1,hpe,hE6⟩:=HF.out rfl
  replace HLO:=hid (HLO.out rfl)
  have HFI:Hid (FI p R.2.1.length R.2.1 R.2.2):=hF1
  have HLB:Hid (LkB R.2.2):=hLB
  have HVL:Hid (0<R.2.1.length/\R.2.1.length<=2000/\p.es=es/\es.length<=600):=⟨hV0,hV1,hpe,hE6⟩
  have hv2:PsIs W N R e w2:=hv.elim (fun h=>absurd rfl h.1) (fun h=>h.2)
  obtain ⟨vv,lv,mv,rfl,hvs,hlv,hmv,hk⟩:=hv2
  have HKX:Hid (Ok W w2):=hk
  have HVS:Hid (VsOwn w2 W.heap.size vv R.2.1):=hvs
  have HLV:Hid (w2.ownsRow 0 43 3 lv R.2.2.length (lkL R.2.2)):=za8 hlv (Nat.zero_le _)
  obtain ⟨tl,htl,hvv,_⟩:=hvs
  have HVV:Hid (tl.length=R.2.1.length/\w2.ownsRow W.heap.size 56 4 vv R.2.1.length (vxL R.2.1 tl)):=⟨htl,hvv⟩
  obtain ⟨vo,vc,rfl⟩:=za0 hvv
  obtain ⟨lo,lc,rfl⟩:=za0 hlv
  obtain ⟨mo,mc,rfl⟩:=za0 hmv
  obtain ⟨vn,hvn⟩:∃ x,x=R.2.1.length:=⟨_,rfl⟩
  obtain ⟨ln,hln⟩:∃ x,x=R.2.2.length:=⟨_,rfl⟩
  obtain ⟨mn,hmn⟩:∃ x,x=(mgL N R.1).length:=⟨_,rfl⟩
  rw [<-hvn,<-hln,<-hmn]
  have HLN:Hid (ln=R.2.2.length/\vn=R.2.1.length):=⟨hln,hvn⟩
  rw [<-hln] at HLV
  rw [<-hvn] at HVV
  obtain ⟨ls,hls⟩:∃ x,x=R.2.2:=⟨_,rfl⟩
  obtain ⟨vs,hvss⟩:∃ x,x=R.2.1:=⟨_,rfl⟩
  rw [<-hls] at HLV HFI HLB HFO HLN
  rw [<-hvss] at HVV HFI HVL HLN
  clear hls hvss hv hk hlv hmv htl hvv hvn hln hmn hF1 hLB hV0 hV1 hpe hE6 HF HSP HVS
  go_upto_block 0 with (fail)
  obtain ⟨X,hX⟩:∃ z,z=w2.alloc (Obj.cells #[.slice vo vn vc,.slice lo ln lc,.slice mo mn mc] 35):=⟨_,rfl⟩
  obtain ⟨gT,hgT⟩:∃ g,g=w2.heap.size:=⟨_,rfl⟩
  rw [<-hX,<-hgT]
  have HWX:Hid (Ok w2 X):=by unfold Hid;rw [hX];exact (Ok.refl _).alloc _
  have HX1:Hid (Ok w1 X):=(HKW.out.step HKX.out).step HWX.out
  have HTX:Hid (X.heap[gT]?=some (.cells #[.slice vo vn vc,.slice lo ln lc,.slice mo mn mc] 35 (0,0))):=by unfold Hid;rw [hX,hgT];exact za4 _ _
  have HCX:Hid _:=Ok.row' (HKX.out.step HWX.out) HCW.out
  have HPX:Hid _:=Ok.row' (HKX.out.step HWX.out) HPW2.out
  have HLX:Hid _:=za1 HLV.out HWX.out
  have HVX:Hid _:=za1 HVV.out.2 HWX.out
  have HTL:Hid (tl.length=vs.length):=by have h1:=HVV.out.1;have h2:=HLN.out.2;unfold Hid;omega
  clear hX hgT HLV HVV HWX HCW HPW2 HKW HKX
  go_cut [12,13] from 14 to 107 (fun t12 t13 u=>Hid (PthR X ls vs 60 t12 t13 u))
  case rest =>
   obtain ⟨V,hV⟩:∃ V,V=wc:=⟨_,rfl⟩
   subst hV
   obtain ⟨u,path,ao,cap,rfl,rfl,hpl,hG,hU,hPB,hPO,hK⟩:=hcut.out
   have HK:Hid (Ok X V):=hK
   have HPP:Hid (path.length<=60/\goP ls 0 path=some u/\u<vs.length/\(∀ y∈path,0<=y/\y<=1000000)):=⟨hpl,hG,hU,hPB⟩
   have HPO:Hid (V.ownsRow X.heap.size 3 1 (.slice ao path.length cap) path.length (ilL path)):=hPO
   clear hpl hG hU hPB hPO hK hcut
   have HCC:Hid (V.heap[gC]?=some (.cells #[.int .i64 (c 0),.int .i64 (c 1),.int .i64 (c 2),.int .i64 (c 3),.int .i64 (c 4),.int .i64 (c 5),.slice tz tn tc,.int .i64 (c 7),.int .i64 (c 8)] 24 (0,0))):=Ok.row' HK.out HCX.out
   have HPC:Hid (V.heap[gP]?=some (.cells #[.slice g0 n0 k0,.slice g1 n1 k1,.slice g2 n2 k2,.slice g3 n3 k3,.slice g4 n4 k4,.slice g5 n5 k5] 30 (0,0))):=Ok.row' HK.out HPX.out
   have HSL:Hid (∀ Y,Ok V Y->SL Y 1 (.slice ao path.length cap) path.length (ilL path)):=fun Y hY=>zn0 (za1 HPO.out hY) (zp3 _) (by decide)
   have HWF:Hid (∀ y∈path,(Lit.int .i64 y).wf=true):=fun y hy=>gwf (by have:=HPP.out.2.2.2 y hy;omega) (by have:=HPP.out.2.2.2 y hy;omega)
   obtain ⟨pl,hpl⟩:∃ n,n=path.length:=⟨_,rfl⟩
   have HPL:Hid (pl=path.length/\pl<=60):=⟨hpl,by rw [hpl];exact HPP.out.1⟩
   rw [<-hpl] at HSL ⊢
   clear hpl
   go_upto_region 23 with (fail)
   have S0:Ok V V.drew:=Below.drew (Ok.refl _)
   refine zf9 (fun Y=>Ok V Y) 10 (by kernel_rfl) ?_
   refine za3 (i:=0) (v:=.agg #[.slice g0 n0 k0,.slice g1 n1 k1,.slice g2 n2 k2,.slice g3 n3 k3,.slice g4 n4 k4,.slice g5 n5 k5]) rfl (by kernel_rfl) (by kernel_rfl) (by kernel_rfl) (by kernel_rfl) (fun _ _ _ h=>h) S0 (Or.inl ⟨by rfl,?_⟩) ?_
   ·intro w' s0;obtain ⟨q0,q1,q2,q3,q4,q5,lgq⟩:=row6 (Ok.row' s0 HPC.out);clear s0;go_simp;try with_reducible rfl
   (try simp only [Act.put,List.setIfInBounds_toArray,List.set_cons_zero,List.set_cons_succ])
   refine za3 (i:=1) (v:=.agg #[.int .i64 (c 0),.int .i64 (c 1),.int .i64 (c 2),.int .i64 (c 3),.int .i64 (c 4),.int .i64 (c 5),.slice tz tn tc,.int .i64 (c 7),.int .i64 (c 8)]) rfl (by kernel_rfl) (by kernel_rfl) (by kernel_rfl) (by kernel_rfl) (fun _ _ _ h=>h) S0 (Or.inl ⟨by rfl,?_⟩) ?_
   ·intro w' s0;obtain ⟨p0,p1,p2,p3,p4,p5,p6,p7,p8,lgp⟩:=row9 (Ok.row' s0 HCC.out);clear s0;go_simp;try with_reducible rfl
   (try simp only [Act.put,List.setIfInBounds_toArray,List.set_cons_zero,List.set_cons_succ])
   refine za3 (i:=3) (v:=.slice ao pl cap) rfl (by kernel_rfl) (by kernel_rfl) (by kernel_rfl) (by kernel_rfl) (fun _ _ _ h=>h) S0 (Or.inl ⟨by rfl,?_⟩) ?_
   ·intro w' s0;clear s0;go_simp;try with_reducible rfl
   (try simp only [Act.put,List.setIfInBounds_toArray,List.set_cons_zero,List.set_cons_succ])
   refine zb0 (i:=2) (by kernel_rfl) rfl (fun K hK=>?_)
   go_simp
   obtain ⟨E1,gE,hE,HE1,HEO⟩:=zT3 V
   rw [hE.1,hE.2]
   refine hK.out _ _ (fun _=>HE1.out) ?_
   clear hK K hE
   (try simp only [Act.put,List.setIfInBounds_toArray,List.set_cons_zero,List.set_cons_succ])
   refine zb0 (i:=4) (by kernel_rfl) rfl (fun K hK=>?_)
   refine zd1 rfl _ _ 25 3 1 8 _ rfl Tryz.underlying25 infIn (by rfl) (by decide) (by decide) V.heap.size (.slice (some ⟨gE,0,none⟩) 0 0) 0 [] (by rfl) HEO.out (.slice ao pl cap) pl (ilL path) (by rfl) (HSL.out E1 HE1.out) (by have:=HPL.out;omega) HE1.out.le ?_
   intro v1 E2 k1 k2
   rw [Nat.zero_add,List.nil_append] at k1
   have HE2:Hid (Ok V E2):=HE1.out.grown k2 (fun b e=>(HEO.out.lt b e).1)
   have HO2:Hid (E2.ownsRow V.heap.size 3 1 v1 pl (ilL path)):=k1
   obtain ⟨ao2,cap2,rfl⟩:=za0 k1
   clear k1 k2
   refine hK.out _ _ (fun _=>HE2.out) ?_
   clear hK K
   (try simp only [Act.put,List.setIfInBounds_toArray,List.set_cons_zero,List.set_cons_succ])
   refine zb0 (i:=5) (by kernel_rfl) rfl (fun K hK=>?_)
   go_simp
   refine (HFO.out E2 _ path (HX1.out.step (HK.out.step HE2.out)) (zn0 (by rw [<-HPL.out.1];exact HO2.out) (zp3 _) (by decide)) (by have:=HPL.out;omega) HWF.out).mono ?_
   rintro e E3 ⟨rfl,hk3⟩
   have HE3:Hid (Ok V E3):=HE2.out.step hk3
   have HFV:Hid (flV 0 ls path=((u:Int),0)):=by unfold Hid flV;rw [if_pos rfl,HPP.out.2.1]
   rw [HFV.out]
   clear hk3
   go_wp2_with fail
   refine hK.out _ _ (fun _=>HE3.out) ?_
   clear hK K
   (try simp only [Act.put,List.setIfInBounds_toArray,List.set_cons_zero,List.set_cons_succ])
   refine za3 (i:=6) (v:=.tuple #[.int .i64 (u:Nat),.int .i64 0]) rfl (by kernel_rfl) (by kernel_rfl) (by kernel_rfl) (by kernel_rfl) (fun _ _ _ h=>h) HE3.out (Or.inl ⟨by rfl,?_⟩) ?_
   ·intro w' s0;clear s0;go_simp;try with_reducible rfl
   (try simp only [Act.put,List.setIfInBounds_toArray,List.set_cons_zero,List.set_cons_succ])
   refine za3 (i:=7) (v:=.int .i64 (u:Nat)) rfl (by kernel_rfl) (by kernel_rfl) (by kernel_rfl) (by kernel_rfl) (fun _ _ _ h=>h) HE3.out (Or.inl ⟨by rfl,?_⟩) ?_
   ·intro w' s0;clear s0;go_simp;try with_reducible rfl
   (try simp only [Act.put,List.setIfInBounds_toArray,List.set_cons_zero,List.set_cons_succ])
   refine za3 (i:=8) (v:=.int .i64 0) rfl (by kernel_rfl) (by kernel_rfl) (by kernel_rfl) (by kernel_rfl) (fun _ _ _ h=>h) HE3.out (Or.inl ⟨by rfl,?_⟩) ?_
   ·intro w' s0;clear s0;go_simp;try with_reducible rfl
   (try simp only [Act.put,List.setIfInBounds_toArray,List.set_cons_zero,List.set_cons_succ])
   refine zb0 (i:=9) (by kernel_rfl) rfl (fun K hK=>?_)
   go_simp
   refine hK.out _ _ (fun _=>HE3.out) ?_
   clear hK K
   refine zb0 (i:=10) (by kernel_rfl) rfl (fun K hK=>?_)
   go_simp
   refine hK.out _ _ (fun h=>absurd rfl h) ?_
   clear hK K
   refine zf8 (by kernel_rfl) ?_ _
   obtain ⟨q0,q1,q2,q3,q4,q5,lgq⟩:=row6 (Ok.row' HE3.out HPC.out)
   go_wp2_with fail
   refine (HLO.out E3 (HX1.out.step (HK.out.step HE3.out))).mono ?_
   rintro e E4 ⟨ev,rfl,hev,hk4⟩
   have HE4:Hid (Ok V E4):=HE3.out.step hk4
   have HEV:Hid (E4.ownsRow 0 51 6 ev es.length (edL es)):=za8 hev (Nat.zero_le _)
   obtain ⟨eo,ec,rfl⟩:=za0 hev
   obtain ⟨em,hem⟩:∃ n,n=es.length:=⟨_,rfl⟩
   have HEM:Hid (em=es.length/\em<=600):=⟨hem,by rw [hem];exact HVL.out.2.2.2⟩
   rw [<-hem] at HEV ⊢
   clear hk4 hev hem q0 q1 q2 q3 q4 q5 lgq
   go_wp2_with fail
   obtain ⟨F,hF⟩:∃ z,z=E4.alloc (Obj.cells #[.slice g0 n0 k0,.slice g1 n1 k1,.slice g2 n2 k2,.slice g3 n3 k3,.slice g4 n4 k4,.slice g5 n5 k5,.int .i64 (N:Nat),.int .i64 (x:Nat),.slice eo em ec] 46):=⟨_,rfl⟩
   obtain ⟨gG,hgG⟩:∃ g,g=E4.heap.size:=⟨_,rfl⟩
   rw [<-hF,<-hgG]
   have HFK:Hid (Ok E4 F):=by unfold Hid;rw [hF];exact (Ok.refl _).alloc _
   have HFG:Hid (F.heap[gG]?=some (.cells #[.slice g0 n0 k0,.slice g1 n1 k1,.slice g2 n2 k2,.slice g3 n3 k3,.slice g4 n4 k4,.slice g5 n5 k5,.int .i64 (N:Nat),.int .i64 (x:Nat),.slice eo em ec] 46 (0,0))):=by unfold Hid;rw [hF,hgG];exact za4 _ _
   have HFW:Hid (Ok V F):=HE4.out.step HFK.out
   have HFE:Hid _:=za1 HEV.out HFK.out
   obtain ⟨nd,hnd⟩:∃ y,vs[u]?=some y:=⟨_,List.getElem?_eq_getElem HPP.out.2.2.1⟩
   obtain ⟨tk,htk⟩:∃ y,tl[u]?=some y:=⟨_,List.getElem?_eq_getElem (by rw [HTL.out];exact HPP.out.2.2.1)⟩
   have HND:Hid (vs[u]?=some nd):=hnd
   have HVX2:Hid _:=za1 HVX.out (HK.out.step HFW.out)
   have HVC:Hid ((vxL vs tl)[u*4]?=some (.int .i64 nd.1)):=(zI8 hnd htk).1
   clear hF hgG hnd htk HE3 HE4 HE2 HE1 HEO HO2 S0 HEV
   go_loopw [22] (fun t22 wr=>∃ k:Int,t22=.int .i64 k /\ -1<=k/\k<=(em:Int)+1/\Hid (Ok F wr)) (fun t22 _=>((em:Int)+1-intOf t22).toNat)
   case atStart=>exact ⟨-1,rfl,by omega,by omega,Ok.refl _⟩
   case round =>
    obtain ⟨k,rfl,hk1,hk2,HKR⟩:=hrel
    have g8:wr.cell? ⟨gG,8,none⟩=some (.slice eo em ec):=(cell_of_row _ _ 8 _ _ _ (Ok.row' HKR.out HFG.out)).trans (by simp)
    have lgg:=za2 (Ok.row' HKR.out HFG.out)
    by_cases hke:k<=(em:Int)
    ·have hked:decide (k<=(em:Int))=true:=decide_eq_true hke
     go_upto_region 30 with (fail)
     go_cut [23] from 136 to 159 (fun s23 z=>Hid (s23=.bool (jnB es nd.1 k)/\Ok F z))
     case first =>
      by_cases h0:0<=k
      ·have h0d:decide (0<=k)=true:=decide_eq_true h0
       by_cases h1:k<(em:Int)
       ·have h1d:decide (k<(em:Int))=true:=decide_eq_true h1
        obtain ⟨ed,hed⟩:∃ y,es[k.toNat]?=some y:=⟨_,List.getElem?_eq_getElem (by have:=HEM.out;omega)⟩
        have he:=za1 HFE.out HKR.out
        obtain ⟨ge,e1⟩:∃ ge,eo=some ⟨ge,0,none⟩:=by obtain ⟨ge,cp,e1,_⟩:=he.form (by omega);injection e1 with e1;exact ⟨ge,e1⟩
        rw [e1] at he g8
        have c0:=he.cells (g:=ge) rfl _ _ (zJ2 hed 0 _ rfl)
        rw [zc0,Nat.zero_add,Nat.add_zero] at c0
        have lge:=(he.lt ge rfl).2
        have hv:=za1 HVX2.out HKR.out
        obtain ⟨gv,e2⟩:∃ gv,vo=some ⟨gv,0,none⟩:=by obtain ⟨gv,cp,e2,_⟩:=hv.form (by have:=HLN.out.2;have:=HVL.out.1;omega);injection e2 with e2;exact ⟨gv,e2⟩
        obtain ⟨t0,t1,t2,_,_,_,lgt⟩:=row3 (Ok.row' ((HK.out.step HFW.out).step HKR.out) HTX.out)
        rw [e2] at hv t0
        have c1:=hv.cells (g:=gv) rfl _ _ HVC.out
        rw [zc0,Nat.zero_add] at c1
        have lgv:=(hv.lt gv rfl).2
        clear e1 e2 t1 t2
        have huv:(u:Int)<(vn:Int):=by have h1:=HPP.out.2.2.1;have h2:=HLN.out.2;omega
        obtain ⟨fr,hfr⟩:∃ y,y=ed.from':=⟨_,rfl⟩
        rw [<-hfr] at c0
        obtain ⟨nn,hnn⟩:∃ y,y=nd.1:=⟨_,rfl⟩
        rw [<-hnn] at c1
        have HJB:Hid (jnB es nd.1 k=(fr==nn)):=by unfold Hid jnB;rw [decide_eq_true h0,hed,hfr,hnn];rfl
        clear he hv hed hfr hnn
        go_quiet (fail)
        go_wp2_with fail
        go_meet
        case rel=>exact ⟨by rw [HJB.out],HKR.out.draws _⟩
       ·have h1d:decide (k<(em:Int))=false:=decide_eq_false h1
        have HJB:Hid (jnB es nd.1 k=false):=by unfold Hid jnB;rw [List.getElem?_eq_none (by have:=HEM.out;omega)];simp
        go_quiet (fail)
        go_wp2_with fail
        go_meet
        case rel=>exact ⟨by rw [HJB.out],HKR.out.draws _⟩
      ·have h0d:decide (0<=k)=false:=decide_eq_false h0
       have HJB:Hid (jnB es nd.1 k=false):=by unfold Hid jnB;rw [h0d];rfl
       go_quiet (fail)
       go_wp2_with fail
       go_meet
       case rel=>exact ⟨by rw [HJB.out],HKR.out.draws _⟩
     case rest =>
      obtain ⟨rfl,hkc⟩:=hcut.out
      have HKC:Hid (Ok F wc):=hkc
      have HVC2:Hid (Ok V wc):=HFW.out.step hkc
      have HCC2:Hid _:=Ok.row' HVC2.out HCC.out
      have HPC2:Hid _:=Ok.row' HVC2.out HPC.out
      have HSL2:Hid (∀ Y,Ok wc Y->SL Y 1 (.slice ao pl cap) pl (ilL path)):=fun Y hY=>HSL.out Y (HVC2.out.step hY)
      obtain ⟨fa,hfa⟩:∃ y,y=(flV 0 ls (path++[k])).1:=⟨_,rfl⟩
      obtain ⟨fb,hfb⟩:∃ y,y=(flV 0 ls (path++[k])).2:=⟨_,rfl⟩
      obtain ⟨jb,hjb⟩:∃ y,y=jnB es nd.1 k:=⟨_,rfl⟩
      have HJ:Hid ((jb=true/\fb=0)\/(jb=false/\fb=1)):=by unfold Hid;rw [hjb,hfb];exact yo9 HFI.out HVL.out.2.2.1 HND.out HPP.out.2.1 k
      have HFAB:Hid (fa=(flV 0 ls (path++[k])).1/\fb=(flV 0 ls (path++[k])).2):=⟨hfa,hfb⟩
      have HKK:Hid (-1<=k/\k<=(em:Int)):=⟨hk1,hke⟩
      rw [<-hjb]
      clear hfa hfb hjb hcut hkc hk1 hk2 hke hked g8 lgg
      go_upto_region 31 with (fail)
      refine wp_region_held_drew (S:=fun w'=>Ok wc w') (by kernel_rfl) (Below.drew (Ok.refl _)) (fun hH=>?_)
      obtain ⟨D,hD⟩:∃ D,D=wc.drew:=⟨_,rfl⟩
      rw [<-hD] at hH ⊢
      clear hD
      refine wpAnyH_take (i:=0) (v:=.agg #[.slice g0 n0 k0,.slice g1 n1 k1,.slice g2 n2 k2,.slice g3 n3 k3,.slice g4 n4 k4,.slice g5 n5 k5]) rfl (by kernel_rfl) (by kernel_rfl) (by kernel_rfl) (fun _ _ _ h=>h) (Or.inl ⟨by rfl,?_⟩) hH ?_
      ·intro w' s0;obtain ⟨q0,q1,q2,q3,q4,q5,lgq⟩:=row6 (Ok.row' s0 HPC2.out);clear s0;go_simp;try with_reducible rfl
      (try simp only [Act.put,List.getElem_toArray,List.getElem_cons_succ,List.getElem_cons_zero,List.setIfInBounds_toArray,List.set_cons_zero,List.set_cons_succ])
      refine wpAnyH_take (i:=1) (v:=.agg #[.int .i64 (c 0),.int .i64 (c 1),.int .i64 (c 2),.int .i64 (c 3),.int .i64 (c 4),.int .i64 (c 5),.slice tz tn tc,.int .i64 (c 7),.int .i64 (c 8)]) rfl (by kernel_rfl) (by kernel_rfl) (by kernel_rfl) (fun _ _ _ h=>h) (Or.inl ⟨by rfl,?_⟩) hH ?_
      ·intro w' s0;obtain ⟨p0,p1,p2,p3,p4,p5,p6,p7,p8,lgp⟩:=row9 (Ok.row' s0 HCC2.out);clear s0;go_simp;try with_reducible rfl
      (try simp only [Act.put,List.getElem_toArray,List.getElem_cons_succ,List.getElem_cons_zero,List.setIfInBounds_toArray,List.set_cons_zero,List.set_cons_succ])
      refine wpAnyH_take (i:=3) (v:=.slice ao pl cap) rfl (by kernel_rfl) (by kernel_rfl) (by kernel_rfl) (fun _ _ _ h=>h) (Or.inl ⟨by rfl,?_⟩) hH ?_
      ·intro w' s0;clear s0;go_simp;try with_reducible rfl
      (try simp only [Act.put,List.getElem_toArray,List.getElem_cons_succ,List.getElem_cons_zero,List.setIfInBounds_toArray,List.set_cons_zero,List.set_cons_succ])
      refine wpAnyH_take (i:=5) (v:=.int .i64 k) rfl (by kernel_rfl) (by kernel_rfl) (by kernel_rfl) (fun _ _ _ h=>h) (Or.inl ⟨by rfl,?_⟩) hH ?_
      ·intro w' s0;clear s0;go_simp;try with_reducible rfl
      (try simp only [Act.put,List.getElem_toArray,List.getElem_cons_succ,List.getElem_cons_zero,List.setIfInBounds_toArray,List.set_cons_zero,List.set_cons_succ])
      refine wpAnyH_ready (rs:=[2,6]) (by kernel_rfl) (by simp) ?_
      refine AllReadyH.cons rfl (fun K hK=>?_) (AllReadyH.cons rfl (fun K hK=>?_) AllReadyH.nil)
      go_simp
      obtain ⟨D2,gE,hE,HE,HEO,HEL⟩:=zP2 hH
      rw [hE.1,hE.2]
      refine hK.out _ _ (hH.step HE.out) (fun hH=>?_)
      clear hK K hE
      (try simp only [Act.put,List.getElem_toArray,List.getElem_cons_succ,List.getElem_cons_zero,List.setIfInBounds_toArray,List.set_cons_zero,List.set_cons_succ])
      have HEB:Hid (gE<D2.heap.size):=(HEO.out.lt gE rfl).2
      refine wpAnyH_ready (rs:=[4,6]) (by kernel_rfl) (by simp) ?_
      refine AllReadyH.cons rfl (fun K hK=>?_) (AllReadyH.cons rfl (fun K hK=>?_) AllReadyH.nil)
      refine zd1 rfl _ _ 25 3 1 8 _ rfl Tryz.underlying25 infIn (by rfl) (by decide) (by decide) wc.heap.size (.slice (some ⟨gE,0,none⟩) 0 0) 0 [] (by rfl) HEO.out (.slice ao pl cap) pl (ilL path) (by rfl) (HSL2.out _ hH) (by have:=HPL.out;omega) hH.le ?_
      intro v4 D4 m1 m2
      rw [Nat.zero_add,List.nil_append] at m1
      have hx:Ok wc D4:=hH.grown m2 (fun b e=>(HEO.out.lt b e).1)
      have HO4:Hid (D4.ownsRow wc.heap.size 3 1 v4 pl (ilL path)):=m1
      obtain ⟨ao4,cap4,rfl⟩:=za0 m1
      refine hK.out _ _ hx (fun hH=>?_)
      clear hK K m1 m2 hx
      (try simp only [Act.put,List.getElem_toArray,List.getElem_cons_succ,List.getElem_cons_zero,List.setIfInBounds_toArray,List.set_cons_zero,List.set_cons_succ])
      refine wpAnyH_ready (rs:=[6]) (by kernel_rfl) (by simp) ?_
      refine AllReadyH.cons rfl (fun K hK=>?_) AllReadyH.nil
      go_simp
      obtain ⟨Z,gk,hE,HE6,HG6,HGL⟩:=yd5 D4 k
      rw [hE.1,hE.2]
      refine hK.out _ _ (hH.step HE6.out) (fun hH=>?_)
      replace HO4:Hid (Z.ownsRow wc.heap.size 3 1 (.slice ao4 pl cap4) pl (ilL path)):=za1 HO4.out HE6.out
      clear hK K hE
      (try simp only [Act.put,List.getElem_toArray,List.getElem_cons_succ,List.getElem_cons_zero,List.setIfInBounds_toArray,List.set_cons_zero,List.set_cons_succ])
      rotate_left
      go_simp
      obtain ⟨D6,gk,hE,HE6,HG6,HGL⟩:=yd5 D2 k
      rw [hE.1,hE.2]
      refine hK.out _ _ (hH.step HE6.out) (fun hH=>?_)
      replace HEO:Hid (D6.ownsRow wc.heap.size 3 1 (.slice (some ⟨gE,0,none⟩) 0 0) 0 []):=za1 HEO.out HE6.out
      clear hK K hE
      (try simp only [Act.put,List.getElem_toArray,List.getElem_cons_succ,List.getElem_cons_zero,List.setIfInBounds_toArray,List.set_cons_zero,List.set_cons_succ])
      refine wpAnyH_ready (rs:=[4]) (by kernel_rfl) (by simp) ?_
      refine AllReadyH.cons rfl (fun K hK=>?_) AllReadyH.nil
      refine zd1 rfl _ _ 25 3 1 8 _ rfl Tryz.underlying25 infIn (by rfl) (by decide) (by decide) wc.heap.size (.slice (some ⟨gE,0,none⟩) 0 0) 0 [] (by rfl) HEO.out (.slice ao pl cap) pl (ilL path) (by rfl) (HSL2.out _ hH) (by have:=HPL.out;omega) hH.le ?_
      intro v4 Z m1 m2
      rw [Nat.zero_add,List.nil_append] at m1
      have hx:Ok wc Z:=hH.grown m2 (fun b e=>(HEO.out.lt b e).1)
      have HO4:Hid (Z.ownsRow wc.heap.size 3 1 v4 pl (ilL path)):=m1
      replace HG6:Hid _:=(m2.block gk (za2 HG6.out) (fun e=>absurd (show gk=gE from Option.some.inj e) (by have h2:=HGL.out;have h3:=HEB.out;omega))).trans HG6.out
      obtain ⟨ao4,cap4,rfl⟩:=za0 m1
      refine hK.out _ _ hx (fun hH=>?_)
      clear hK K m1 m2 hx
      (try simp only [Act.put,List.getElem_toArray,List.getElem_cons_succ,List.getElem_cons_zero,List.setIfInBounds_toArray,List.set_cons_zero,List.set_cons_succ])
      rotate_left
      go_simp
      obtain ⟨D6,gk,hE,HE6,HG6,HGL⟩:=yd5 D k
      rw [hE.1,hE.2]
      refine hK.out _ _ (hH.step HE6.out) (fun hH=>?_)
      clear hK K hE
      (try simp only [Act.put,List.getElem_toArray,List.getElem_cons_succ,List.getElem_cons_zero,List.setIfInBounds_toArray,List.set_cons_zero,List.set_cons_succ])
      have HKB:Hid (gk<D6.heap.size):=za2 HG6.out
      refine wpAnyH_ready (rs:=[2]) (by kernel_rfl) (by simp) ?_
      refine AllReadyH.cons rfl (fun K hK=>?_) AllReadyH.nil
      go_simp
      obtain ⟨D2,gE,hE,HE,HEO,HEL⟩:=zP2 hH
      rw [hE.1,hE.2]
      refine hK.out _ _ (hH.step HE.out) (fun hH=>?_)
      replace HG6:Hid _:=Ok.row' HE.out HG6.out
      clear hK K hE
      (try simp only [Act.put,List.getElem_toArray,List.getElem_cons_succ,List.getElem_cons_zero,List.setIfInBounds_toArray,List.set_cons_zero,List.set_cons_succ])
      refine wpAnyH_ready (rs:=[4]) (by kernel_rfl) (by simp) ?_
      refine AllReadyH.cons rfl (fun K hK=>?_) AllReadyH.nil
      refine zd1 rfl _ _ 25 3 1 8 _ rfl Tryz.underlying25 infIn (by rfl) (by decide) (by decide) wc.heap.size (.slice (some ⟨gE,0,none⟩) 0 0) 0 [] (by rfl) HEO.out (.slice ao pl cap) pl (ilL path) (by rfl) (HSL2.out _ hH) (by have:=HPL.out;omega) hH.le ?_
      intro v4 Z m1 m2
      rw [Nat.zero_add,List.nil_append] at m1
      have hx:Ok wc Z:=hH.grown m2 (fun b e=>(HEO.out.lt b e).1)
      have HO4:Hid (Z.ownsRow wc.heap.size 3 1 v4 pl (ilL path)):=m1
      replace HG6:Hid _:=(m2.block gk (za2 HG6.out) (fun e=>absurd (show gk=gE from Option.some.inj e) (by have h2:=HEL.out;have h3:=HKB.out;omega))).trans HG6.out
      obtain ⟨ao4,cap4,rfl⟩:=za0 m1
      refine hK.out _ _ hx (fun hH=>?_)
      clear hK K m1 m2 hx
      (try simp only [Act.put,List.getElem_toArray,List.getElem_cons_succ,List.getElem_cons_zero,List.setIfInBounds_toArray,List.set_cons_zero,List.set_cons_succ])
      all_goals
       refine wpAnyH_ready (rs:=[7]) (by kernel_rfl) (by simp) ?_
       refine AllReadyH.cons rfl (fun K hK=>?_) AllReadyH.nil
       refine zd1 rfl _ _ 25 3 1 8 _ rfl Tryz.underlying25 infIn (by rfl) (by decide) (by decide) wc.heap.size (.slice ao4 pl cap4) pl (ilL path) (by rfl) HO4.out (.slice (some ⟨gk,0,none⟩) 1 1) 1 [.int .i64 k] (by rfl) (yC3 HG6.out) (by have:=HPL.out;omega) hH.le ?_
       intro v7 Z7 m1 m2
       have hx:Ok wc Z7:=hH.grown m2 (fun b e=>(HO4.out.lt b e).1)
       have HO7:Hid (Z7.ownsRow wc.heap.size 3 1 v7 (pl+1) (ilL path++[.int .i64 k])):=m1
       obtain ⟨ao7,cap7,rfl⟩:=za0 m1
       refine hK.out _ _ hx (fun hH=>?_)
       clear hK K m1 m2 hx
       (try simp only [Act.put,List.getElem_toArray,List.getElem_cons_succ,List.getElem_cons_zero,List.setIfInBounds_toArray,List.set_cons_zero,List.set_cons_succ])
       refine wpAnyH_ready (rs:=[8]) (by kernel_rfl) (by simp) ?_
       refine AllReadyH.cons rfl (fun K hK=>?_) AllReadyH.nil
       go_simp
       refine (HFO.out Z7 _ (path++[k]) (HX1.out.step ((HK.out.step HVC2.out).step hH)) (zn0 (by rw [List.length_append,List.length_singleton,<-HPL.out.1,zs4];exact HO7.out) (zp3 _) (by decide)) (by rw [List.length_append,List.length_singleton];have:=HPL.out;omega) (yC4 HWF.out (gwf (by have:=HKK.out;omega) (by have h1:=HKK.out;have h2:=HEM.out;omega)))).mono ?_
       rintro e Z8 ⟨rfl,hk8⟩
       rw [<-HFAB.out.1,<-HFAB.out.2]
       have HZ8:Hid (Ok wc Z8):=hH.step hk8
       clear hk8
       go_wp2_with fail
       refine hK.out _ _ HZ8.out (fun hH=>?_)
       clear hK K
       (try simp only [Act.put,List.getElem_toArray,List.getElem_cons_succ,List.getElem_cons_zero,List.setIfInBounds_toArray,List.set_cons_zero,List.set_cons_succ])
       refine wpAnyH_take (i:=9) (v:=.tuple #[.int .i64 fa,.int .i64 fb]) rfl (by kernel_rfl) (by kernel_rfl) (by kernel_rfl) (fun _ _ _ h=>h) (Or.inl ⟨by rfl,?_⟩) hH ?_
       ·intro w' s0;clear s0;go_simp;try with_reducible rfl
       (try simp only [Act.put,List.getElem_toArray,List.getElem_cons_succ,List.getElem_cons_zero,List.setIfInBounds_toArray,List.set_cons_zero,List.set_cons_succ])
       refine wpAnyH_take (i:=10) (v:=.int .i64 fa) rfl (by kernel_rfl) (by kernel_rfl) (by kernel_rfl) (fun _ _ _ h=>h) (Or.inl ⟨by rfl,?_⟩) hH ?_
       ·intro w' s0;clear s0;go_simp;try with_reducible rfl
       (try simp only [Act.put,List.getElem_toArray,List.getElem_cons_succ,List.getElem_cons_zero,List.setIfInBounds_toArray,List.set_cons_zero,List.set_cons_succ])
       refine wpAnyH_take (i:=11) (v:=.int .i64 fb) rfl (by kernel_rfl) (by kernel_rfl) (by kernel_rfl) (fun _ _ _ h=>h) (Or.inl ⟨by rfl,?_⟩) hH ?_
       ·intro w' s0;clear s0;go_simp;try with_reducible rfl
       (try simp only [Act.put,List.getElem_toArray,List.getElem_cons_succ,List.getElem_cons_zero,List.setIfInBounds_toArray,List.set_cons_zero,List.set_cons_succ])
       refine wpAnyH_take (i:=12) (v:=.int .i64 fb) rfl (by kernel_rfl) (by kernel_rfl) (by kernel_rfl) (fun _ _ _ h=>h) (Or.inl ⟨by rfl,?_⟩) hH ?_
       ·intro w' s0;clear s0;go_simp;try with_reducible rfl
       (try simp only [Act.put,List.getElem_toArray,List.getElem_cons_succ,List.getElem_cons_zero,List.setIfInBounds_toArray,List.set_cons_zero,List.set_cons_succ])
       refine wpAnyH_done (by kernel_rfl) ?_ _
       have hkw:IntKind.i64.wrap (k+1)=k+1:=Go.IntWalk.i64_in _ (by have h1:=HKK.out;have h2:=HEM.out;omega)
       rcases HJ.out with ⟨rfl,rfl⟩ | ⟨rfl,rfl⟩
       all_goals
        go_wp2_with fail
        refine ⟨⟨k+1,rfl,by have:=HKK.out;omega,by have:=HKK.out;omega,HKC.out.step HZ8.out⟩,?_⟩
        have h1:=HKK.out
        simp only [intOf]
        omega
    ·have hked:decide (k<=(em:Int))=false:=decide_eq_false hke
     have hke2:(em:Int)<k:=by omega
     clear hk2
     go_wp2_with fail
     refine (HTK.out _ (HX1.out.step ((HK.out.step HFW.out).step HKR.out))).mono ?_
     rintro e w9 ⟨rfl,hk9⟩
     have HK9:Hid (Ok w w9):=(HK1.out.step (HX1.out.step ((HK.out.step HFW.out).step HKR.out))).step hk9
     clear hk9
     go_wp2_with fail
     go_ret
     exact ⟨rfl,HK9.out⟩
  case first =>
  go_wp2_with fail
  go_loopw [12,13,14] (fun t12 t13 t14 wr=>∃ i:Nat,t14=.int .i64 (i:Nat)/\i<=60/\Hid (PthR X ls vs i t12 t13 wr)) (fun _ _ t14 _=>61-(intOf t14).toNat)
  case atStart=>exact ⟨0,rfl,Nat.zero_le _,⟨0,[],none,0,rfl,rfl,Nat.zero_le _,rfl,HVL.out.1,(fun y hy=>by cases hy),World.ownsRow_nil _ _ _ _,Ok.refl _⟩⟩
  case round =>
   obtain ⟨i,rfl,hi60,HPR⟩:=hrel
   obtain ⟨u,path,ao,cap,rfl,rfl,hpl,hG,hU,hPB,hPO,hK⟩:=HPR.out
   have HK:Hid (Ok X wr):=hK
   have HPP:Hid (path.length<=i/\goP ls 0 path=some u/\u<vs.length/\(∀ y∈path,0<=y/\y<=1000000)/\wr.ownsRow X.heap.size 3 1 (.slice ao path.length cap) path.length (ilL path)):=⟨hpl,hG,hU,hPB,hPO⟩
   clear hpl hG hU hPB hPO hK
   have h60:(i:Int)<=60:=by omega
   by_cases hcont:i<pn/\i<60
   ·have hc1:(i:Int)<(pn:Int):=za6 hcont.1
    have hc2:(i:Int)<60:=by omega
    obtain ⟨t0,t1,t2,_,_,_,lgt⟩:=row3 (Ok.row' HK.out HTX.out)
    obtain ⟨Y,hY⟩:∃ Y,Y=wr:=⟨_,rfl⟩
    subst hY
    have HN6:Hid (ln<=2000000/\ln=ls.length):=⟨by rw [HLN.out.1];exact HLB.out.1,HLN.out.1⟩
    go_wp2_with fail
    go_loopw [15,16] (fun t15 t16 wr=>Hid (LkI Y ls u ln t15 t16 wr)) (fun _ t16 _=>ln-(intOf t16).toNat)
    case atStart=>exact ⟨0,none,0,rfl,rfl,Nat.zero_le _,World.ownsRow_nil _ _ _ _,Ok.refl _⟩
    case round =>
     obtain ⟨k,oo,oc,rfl,rfl,hk,hOO,hK2⟩:=hrel.out
     have HOO:Hid (wr.ownsRow Y.heap.size 43 3 (.slice oo (outL ls u k).length oc) (outL ls u k).length (lkL (outL ls u k))):=hOO
     have HK2:Hid (Ok Y wr):=hK2
     clear hOO hK2 hrel
     obtain ⟨t0,t1,t2,_,_,_,lgt⟩:=row3 (Ok.row' (HK.out.step HK2.out) HTX.out)
     obtain ⟨on,hon⟩:∃ n,n=(outL ls u k).length:=⟨_,rfl⟩
     have HON:Hid (on=(outL ls u k).length/\on<=k):=⟨hon,by rw [hon];exact yy5 _ _ _⟩
     rw [<-hon] at HOO ⊢
     clear hon
     by_cases hkl:k<ln
     ·have hkl':(k:Int)<(ln:Int):=za6 hkl
      have hkw:IntKind.i64.wrap ((k:Int)+1)=((k+1:Nat):Int):=zb6 (by have:=HN6.out;omega)
      obtain ⟨l,hl⟩:∃ l,ls[k]?=some l:=⟨_,List.getElem?_eq_getElem (by have:=HN6.out;omega)⟩
      obtain ⟨lx,ly,lz⟩:=l
      have ho:=za1 HLX.out (HK.out.step HK2.out)
      obtain ⟨gl,cp,e1,_⟩:=ho.form (by omega)
      injection e1 with e1 _ _
      subst e1
      obtain ⟨q0,q1,q2⟩:=zz7 hl
      have c0:=ho.cells (g:=gl) rfl _ _ q0
      have c1:=ho.cells (g:=gl) rfl _ _ q1
      have c2:=ho.cells (g:=gl) rfl _ _ q2
      rw [zc0,Nat.zero_add] at c0 c1 c2
      have hgl:=(ho.lt gl rfl).2
      by_cases hxu:lx=u
      ·have HNX:Hid (outL ls u (k+1)=outL ls u k++[(lx,ly,lz)]):=by unfold Hid;rw [zF0 hl,if_pos hxu]
       have hxb:((lx:Int)==(u:Int))=true:=by rw [hxu];exact beq_self_eq_true _
       clear ho hl q0 q1 q2 hxu
       go_wp2_with (first | (at_builtin;refine zd0 rfl _ _ 33 43 3 24 _ rfl Tryz.underlying33 infLk (by rfl) (by decide) (by decide) Y.heap.size (.slice oo on oc) on (lkL (outL ls u k)) (by rfl) (World.ownsRow.alloc HOO.out _) (.slice (some ⟨wr.heap.size,0,none⟩) 1 1) 1 [.int .i64 (lx:Nat),.int .i64 (ly:Nat),.int .i64 (lz:Nat)] (by rfl) (SL.one wr 43 [.int .i64 (lx:Nat),.int .i64 (ly:Nat),.int .i64 (lz:Nat)] rfl (by simp [Value.oneCell'])) (by have h1:=HON.out;have h2:=HN6.out;omega) (by have h1:=HK2.out.le;simp;omega) ?_;intro v9 w9 k1 k2;have HO9:Hid (w9.ownsRow Y.heap.size 43 3 v9 (on+1) (lkL (outL ls u k)++[.int .i64 (lx:Nat),.int .i64 (ly:Nat),.int .i64 (lz:Nat)])):=k1;have HK9:Hid (Ok Y w9):=(HK2.out.alloc _).grown k2 (fun b e=>(HOO.out.lt b e).1);obtain ⟨vo9,vc9,rfl⟩:=za0 k1;clear k1 k2) | fail)
       refine ⟨⟨k+1,vo9,vc9,rfl,?_,hkl,?_,HK9.out⟩,?_⟩
       ·rw [HNX.out,List.length_append,List.length_singleton,HON.out.1]
       ·rw [HNX.out,List.length_append,List.length_singleton,ya3,<-HON.out.1]
        exact HO9.out
       ·simp only [intOf,Int.toNat_natCast];omega
      ·have HNX:Hid (outL ls u (k+1)=outL ls u k):=by unfold Hid;rw [zF0 hl,if_neg hxu,List.append_nil]
       have hxb:((lx:Int)==(u:Int))=false:=by rw [beq_eq_false_iff_ne];omega
       clear ho hl q0 q1 q2 hxu
       go_wp2_with fail
       refine ⟨⟨k+1,oo,oc,rfl,?_,hkl,?_,HK2.out⟩,?_⟩
       ·rw [HNX.out,<-HON.out.1]
       ·rw [HNX.out,<-HON.out.1]
        exact HOO.out
       ·simp only [intOf,Int.toNat_natCast];omega
     ·have hkl':¬(k:Int)<(ln:Int):=by omega
      by_cases hon0:on=0
      ·have honb:((on:Int)==0)=true:=by rw [hon0];rfl
       clear hon0
       go_wp2_with fail
       go_meet
       case rel=>exact ⟨u,path,ao,cap,rfl,rfl,by have:=HPP.out.1;omega,HPP.out.2.1,HPP.out.2.2.1,HPP.out.2.2.2.1,za1 HPP.out.2.2.2.2 HK2.out,HK.out.step HK2.out⟩
      ·have honb:((on:Int)==0)=false:=by rw [beq_eq_false_iff_ne];omega
       have hke:outL ls u k=outL ls u ls.length:=by have h1:=HN6.out.2;rw [show k=ls.length by omega]
       obtain ⟨y,hy⟩:∃ y,picks[i]?=some y:=⟨_,List.getElem?_eq_getElem (by have:=HPN.out;omega)⟩
       have HYW:Hid ((Lit.int .i64 y).wf=true):=HPW.out y (List.mem_of_getElem? hy)
       obtain ⟨_,_,po',pc',e1,h2⟩:=HPK.out.below ((HK1.out.step HX1.out).step (HK.out.step HK2.out))
       injection e1 with e1 _ e3
       subst e1
       obtain ⟨pb,pf,e4,hpb,hpc⟩:=h2.resolve_left (by omega)
       subst e4
       have c0:=hpc i (.int .i64 y) (zs5 hy)
       clear hpc h2 hy e3
       obtain ⟨m,hm,hml⟩:=yy6 y (show 0<on by omega)
       obtain ⟨l,hl⟩:∃ l,(outL ls u k)[m]?=some l:=⟨_,List.getElem?_eq_getElem (by have:=HON.out;omega)⟩
       obtain ⟨lx,ly,lz⟩:=l
       have HMEM:Hid ((lx,ly,lz)∈ls/\lx=u):=yo8 (List.mem_of_getElem? hl)
       have HB3:Hid (lx<=1000000/\ly<=1000000/\lz<=1000000):=HLB.out.2 _ HMEM.out.1
       obtain ⟨go,cp,e1,_⟩:=HOO.out.form (by omega)
       injection e1 with e1 _ _
       subst e1
       obtain ⟨_,q1,q2⟩:=zz7 hl
       have d1:=HOO.out.cells (g:=go) rfl _ _ q1
       have d2:=HOO.out.cells (g:=go) rfl _ _ q2
       rw [zc0,Nat.zero_add] at d1 d2
       have hgo:=(HOO.out.lt go rfl).2
       have HPO:Hid (wr.ownsRow X.heap.size 3 1 (.slice ao path.length cap) path.length (ilL path)):=za1 HPP.out.2.2.2.2 HK2.out
       obtain ⟨pl,hpl⟩:∃ n,n=path.length:=⟨_,rfl⟩
       have HPL:Hid (pl=path.length/\pl<=i):=⟨hpl,by rw [hpl];exact HPP.out.1⟩
       rw [<-hpl] at HPO ⊢
       have hml':(m:Int)<(on:Int):=za6 hml
       have hiw:IntKind.i64.wrap ((i:Int)+1)=((i+1:Nat):Int):=zb6 (by omega)
       have HI:Hid (i<60):=hcont.2
       have HNEW:Hid (goP ls 0 (path++[(lz:Int)])=some ly/\ly<vs.length):=by
        have h1:=HFI.out.next_some HMEM.out.1
        obtain ⟨_,_,_,_,_,a4⟩:=HFI.out.link HMEM.out.1
        refine ⟨?_,(List.getElem?_eq_some_iff.1 a4).1⟩
        rw [zz2,HPP.out.2.1]
        show goP ls u [(lz:Int)]=some ly
        rw [zI3,if_pos (by omega),Int.toNat_natCast,<-HMEM.out.2]
        exact h1
       have HYB:Hid (-9223372036854775808<=y/\y<=9223372036854775807):=yC1 HYW.out
       have HONB:Hid (0<on/\on<=2000000):=⟨by omega,by have h1:=HON.out;have h2:=HN6.out;omega⟩
       have hmod : -9223372036854775808<=y.tmod (on:Int)+(on:Int):=by have:=yu2 y HONB.out.1;omega
       obtain ⟨z,hz⟩:∃ z,y.tmod (on:Int)=z:=⟨_,rfl⟩
       rw [hz] at hm
       have hzb:=yu2 y HONB.out.1
       rw [hz] at hzb
       clear hl q1 q2 hpl hke hon0 hmod
       by_cases hzn:z<0
       rw [if_pos hzn] at hm
       have hzw:IntKind.i64.wrap (z+(on:Int))=(m:Int):=by rw [Go.IntWalk.i64_in _ (by have:=HONB.out;omega)];exact hm
       clear hzb hm
       rotate_left
       rw [if_neg hzn] at hm
       rw [hm] at hz hzn
       clear hzb hm
       all_goals
        go_wp2_with (first | (at_builtin;refine zd0 rfl _ _ 25 3 1 8 _ rfl Tryz.underlying25 infIn (by rfl) (by decide) (by decide) X.heap.size (.slice ao pl cap) pl (ilL path) (by rfl) (World.ownsRow.alloc HPO.out _) (.slice (some ⟨wr.heap.size,0,none⟩) 1 1) 1 [.int .i64 (lz:Nat)] (by rfl) (SL.one wr 3 [.int .i64 (lz:Nat)] rfl (by simp [Value.oneCell'])) (by have h1:=HPL.out;have h2:=HI.out;omega) (by have h1:=(HK.out.step HK2.out).le;simp;omega) ?_;intro v9 w9 k1 k2;have HO9:Hid (w9.ownsRow X.heap.size 3 1 v9 (pl+1) (ilL path++[.int .i64 (lz:Nat)])):=k1;have HK9:Hid (Ok X w9):=((HK.out.step HK2.out).alloc _).grown k2 (fun b e=>(HPO.out.lt b e).1);obtain ⟨vo9,vc9,rfl⟩:=za0 k1;clear k1 k2) | fail)
        refine ⟨⟨i+1,rfl,HI.out,⟨ly,path++[(lz:Int)],vo9,vc9,rfl,by rw [List.length_append,List.length_singleton,HPL.out.1],by rw [List.length_append,List.length_singleton];have:=HPL.out;omega,HNEW.out.1,HNEW.out.2,yC2 HPP.out.2.2.2.1 HB3.out.2.2,by rw [List.length_append,List.length_singleton,<-HPL.out.1,zs4];exact HO9.out,HK9.out⟩⟩,?_⟩
        simp only [intOf,Int.toNat_natCast]
        omega
   ·have hpr:Hid (PthR X ls vs 60 (Value.int IntKind.i64 (u:Nat)) (Value.slice ao path.length cap) wr):=⟨u,path,ao,cap,rfl,rfl,by have:=HPP.out.1;omega,HPP.out.2.1,HPP.out.2.2.1,HPP.out.2.2.2.1,HPP.out.2.2.2.2,HK.out⟩
    by_cases hc1:i<pn
    ·have hc2:(i:Int)<(pn:Int):=za6 hc1
     have hc3:¬(i:Int)<60:=by omega
     go_wp2_with fail
     go_meet
     case rel=>exact hpr
    ·have hc2:¬(i:Int)<(pn:Int):=by omega
     go_wp2_with fail
     go_meet
     case rel=>exact hpr
end Go.Proofs.YtenoopfeplalnaaGreatDoor
