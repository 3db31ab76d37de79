import Derived.Deep.CutBlock
import Derived.Test.YtbneneijdgcccaaGreatDoorKMf0
set_option linter.all false
set_option maxRecDepth 100000
namespace Go.Proofs.YtbneneijdgcccaaGreatDoor
open Go.RowKit Go.Maps
theorem yr9 {t:Tok} (h:TkB 100000 t):(keyT Lib.itoa t).length<=6700000:=by
 unfold keyT
 split
 ·have:wMerged.length=6:=rfl
  omega
 have h1:=zr2 t.2.1 h.hi
 have h2:=zB4 t.2.2 h.li
 have h3:=h.hl
 have h4:=h.ll
 rw [List.length_append,List.length_cons]
 omega
set_option maxHeartbeats 16000000 in
theorem yh2 (s:ByteArray) (c:Nat->Int) (tz:Option Addr) (tn tc:Nat) (w:World)
  (hP:∀ Y,Ok w Y->Calls Tryz.prog 4 #[.string s,.int .i64 0] Y fun e w'=>HPrg Y c tz tn tc e w') :
  Calls Tryz.prog 3 #[.string s,.agg #[.int .i64 (c 0),.int .i64 (c 1),.int .i64 (c 2),.int .i64 (c 3),.int .i64 (c 4),.int .i64 (c 5),.slice tz tn tc,.int .i64 (c 7),.int .i64 (c 8)]] w fun e w'=>e=.returned (.bool true)/\Ok w w':=by
 have HP:=hid hP
 clear hP
 go_enter Tryz.func3,Tryz.ntmps3
 go_wp2_with fail
 refine (HP.o _ ((Ok.refl w).alloc _)).mono ?_
 rintro e w1 ⟨v,r,N,x,R,es,p,B,rfl,hsl,hk1,hlaw,hF⟩
 obtain ⟨g0,n0,k0,g1,n1,k1,g2,n2,k2,g3,n3,k3,g4,n4,k4,g5,n5,k5,e0,e1,e2,e3,e4,e5⟩:=slices6 hsl
 obtain ⟨hsp,hlo,hst,hky,htk⟩:=hlaw
 rw [e0,e1,e2,e3,e4,e5] at hsp hlo hst
 rw [e0,e1,e2,e3,e4,e5]
 have HSP:=hid hsp
 have HLO:=hid hlo
 have HST:=hid hst
 have HKY:=hid hky
 have HTK:=hid htk
 have HC1:Hi (w1.heap[w.heap.size]?=some (.cells #[.int .i64 (c 0),.int .i64 (c 1),.int .i64 (c 2),.int .i64 (c 3),.int .i64 (c 4),.int .i64 (c 5),.slice tz tn tc,.int .i64 (c 7),.int .i64 (c 8)] 24 (0,0))):=Ok.row' hk1 (za3 _ _)
 have HK1:Hi (Ok w w1):=((Ok.refl w).alloc _).step hk1
 have HF1:=hid hF
 obtain ⟨gC,hgC⟩:=qq (w.heap.size)
 rw [<-hgC] at HC1 ⊢
 obtain ⟨p0,p1,p2,p3,p4,p5,p6,p7,p8,lgp⟩:=row9 HC1.o
 clear hsl hk1 hsp hlo hst hky htk hF e0 e1 e2 e3 e4 e5 hgC HP
 go_wp2_with fail
 obtain ⟨W,hW⟩:=qq (w1.alloc (Obj.cells #[.slice g0 n0 k0,.slice g1 n1 k1,.slice g2 n2 k2,.slice g3 n3 k3,.slice g4 n4 k4,.slice g5 n5 k5] 30))
 obtain ⟨gP,hgP⟩:=qq (w1.heap.size)
 rw [<-hW,<-hgP]
 have HKW:Hi (Ok w1 W):=by rw [hW];exact (Ok.refl _).alloc _
 have HCW:Hi (W.heap[gC]?=some (.cells #[.int .i64 (c 0),.int .i64 (c 1),.int .i64 (c 2),.int .i64 (c 3),.int .i64 (c 4),.int .i64 (c 5),.slice tz tn tc,.int .i64 (c 7),.int .i64 (c 8)] 24 (0,0))):=Ok.row' HKW.o HC1.o
 have HPW2:Hi (W.heap[gP]?=some (.cells #[.slice g0 n0 k0,.slice g1 n1 k1,.slice g2 n2 k2,.slice g3 n3 k3,.slice g4 n4 k4,.slice g5 n5 k5] 30 (0,0))):=by rw [hW,hgP];exact za3 _ _
 clear hW hgP p0 p1 p2 p3 p4 p5 p6 p7 p8 lgp HC1
 refine (HSP.o W HKW.o).mono ?_
 rintro e w2 hv
 by_cases hr:r=0
 rotate_left
 ·have HR:Hi (r≠0):=hr
  obtain ⟨rfl,hk⟩:e=.returned (.tuple #[.agg #[.slice none 0 0,.slice none 0 0,.slice none 0 0],.int .i64 r])/\Ok W w2:=hv.elim (fun h=>h.2) (fun h=>absurd h.1 HR.o)
  have hrb:(r != 0)=true:=bne_iff_ne.2 hr
  have HKX:Hi (Ok W w2):=hk
  clear hv hk hr
  go_wp2_with fail
  refine (HTK.o _ ((HKW.o.step HKX.o).alloc _)).mono ?_
  rintro e w4 ⟨rfl,hk4⟩
  have HK4:Hi (Ok w w4):=(HK1.o.step ((HKW.o.step HKX.o).alloc _)).step hk4
  clear hk4
  go_wp2_with fail
  go_ret
  exact ⟨rfl,HK4.o⟩
 subst hr
 have HFF:=hid (HF1.o rfl).1
 have HHU:=hid (HF1.o rfl).2
 replace HLO:=hid (HLO.o rfl)
 replace HST:=hid (HST.o rfl)
 have hv2:PsIs W N R e w2:=hv.elim (fun h=>absurd rfl h.1) (fun h=>h.2)
 obtain ⟨vv,lv,mv,rfl,hvs,hlv,hmv,hk⟩:=hv2
 have HKX:Hi (Ok W w2):=hk
 have HLV:Hi (w2.ownsRow 0 58 3 lv R.2.2.length (lkL R.2.2)):=za7 hlv (Nat.zero_le _)
 have HMV:Hi (w2.ownsRow 0 3 1 mv (mgL N R.1).length (ilL (mgL N R.1))):=za7 hmv (Nat.zero_le _)
 obtain ⟨tl,htl,hvv,htk⟩:=hvs
 have HVV:Hi (tl.length=R.2.1.length/\w2.ownsRow W.heap.size 52 4 vv R.2.1.length (vxL R.2.1 tl)):=⟨htl,hvv⟩
 have HTT:Hi (∀ (i:Nat) (v:Vx) (x:Value×Value),R.2.1[i]?=some v->tl[i]?=some x->TokOwn w2 W.heap.size x.1 x.2 v.2):=htk
 obtain ⟨vo,vc,rfl⟩:=za0 hvv
 obtain ⟨lo,lc,rfl⟩:=za0 hlv
 obtain ⟨mo,mc,rfl⟩:=za0 hmv
 obtain ⟨ls,hls⟩:=qq (R.2.2)
 obtain ⟨vs,hvss⟩:=qq (R.2.1)
 obtain ⟨ml,hml⟩:=qq (mgL N R.1)
 rw [<-hls] at HLV HFF ⊢
 rw [<-hvss] at HVV HFF HTT ⊢
 rw [<-hml] at HMV HFF ⊢
 obtain ⟨vn,hvn⟩:=qq (vs.length)
 obtain ⟨ln,hln⟩:=qq (ls.length)
 obtain ⟨mn,hmn⟩:=qq (ml.length)
 rw [<-hvn,<-hln,<-hmn]
 have HLN:Hi (ln=ls.length/\vn=vs.length/\mn=ml.length):=⟨hln,hvn,hmn⟩
 rw [<-hln] at HLV
 rw [<-hvn] at HVV
 rw [<-hmn] at HMV
 clear hls hvss hml hv hk hlv hmv htl hvv hvn hln hmn htk HSP HF1
 obtain ⟨q0,q1,q2,q3,q4,q5,lgq⟩:=row6 (Ok.row' HKX.o HPW2.o)
 go_wp2_with fail
 refine (HLO.o _ ((HKW.o.step HKX.o).alloc _)).mono ?_
 rintro e E4 ⟨ev,rfl,hev,hk4⟩
 obtain ⟨gT,hgT⟩:=qq (w2.heap.size)
 have HE4:Hi (Ok w2 E4):=((Ok.refl w2).alloc _).step hk4
 have HT4:Hi (E4.heap[gT]?=some (.cells #[.slice vo vn vc,.slice lo ln lc,.slice mo mn mc] 35 (0,0))):=Ok.row' hk4 (by rw [hgT];exact za3 _ _)
 rw [<-hgT]
 have HEV:Hi (E4.ownsRow 0 56 6 ev es.length (edL es)):=za7 hev (Nat.zero_le _)
 obtain ⟨eo,ec,rfl⟩:=za0 hev
 obtain ⟨em,hem⟩:=qq (es.length)
 have HEM:Hi (em=es.length/\em<=600):=⟨hem,by rw [hem];exact HFF.o.small.2.2.2.1⟩
 rw [<-hem] at HEV ⊢
 have hmm:=@run_makeMap Tryz.prog
 clear hk4 hev hem hgT q0 q1 q2 q3 q4 q5 lgq
 as_aux_lemma =>
 go_upto_block 0 with (fail)
 obtain ⟨X,hX⟩:=qq (E4.alloc (Obj.cells #[.slice g0 n0 k0,.slice g1 n1 k1,.slice g2 n2 k2,.slice g3 n3 k3,.slice g4 n4 k4,.slice g5 n5 k5,.int .i64 (N:Nat),.int .i64 (x:Nat),.slice eo em ec] 42))
 obtain ⟨gG,hgG⟩:=qq (E4.heap.size)
 rw [<-hX,<-hgG]
 have HXK:Hi (Ok E4 X):=by rw [hX];exact (Ok.refl _).alloc _
 have HGX:Hi (X.heap[gG]?=some (.cells #[.slice g0 n0 k0,.slice g1 n1 k1,.slice g2 n2 k2,.slice g3 n3 k3,.slice g4 n4 k4,.slice g5 n5 k5,.int .i64 (N:Nat),.int .i64 (x:Nat),.slice eo em ec] 42 (0,0))):=by rw [hX,hgG];exact za3 _ _
 have HX2:Hi (Ok w2 X):=HE4.o.step HXK.o
 have HTX:Hi (X.heap[gT]?=_):=Ok.row' HXK.o HT4.o
 have HCX:Hi (X.heap[gC]?=_):=Ok.row' (HKX.o.step HX2.o) HCW.o
 have HPX:Hi (X.heap[gP]?=_):=Ok.row' (HKX.o.step HX2.o) HPW2.o
 have HEX:Hi _:=za1 HEV.o HXK.o
 have HLX:Hi _:=za1 HLV.o HX2.o
 have HMX:Hi _:=za1 HMV.o HX2.o
 have HVX:Hi _:=za1 HVV.o.2 HX2.o
 have HTL:Hi (tl.length=vs.length):=by have h1:=HVV.o.1;have h2:=HLN.o;unfold Hi;omega
 have HTTX:Hi (∀ (i:Nat) (v:Vx) (x:Value×Value),vs[i]?=some v->tl[i]?=some x->TokOwn X 0 x.1 x.2 v.2):=fun i v x h1 h2=>((HTT.o i v x h1 h2).ok HX2.o).base (Nat.zero_le _)
 have HWX:Hi (Ok w X):=HK1.o.step (HKW.o.step (HKX.o.step HX2.o))
 have HXX:Hi (Ok w1 X):=HKW.o.step (HKX.o.step HX2.o)
 have HXS:Hi (X.heap.size=gG+1):=by unfold Hi;rw [hX,hgG];simp
 clear hX hgG HXK HEV HLV HMV HVV HTT HE4 HT4 HCW HPW2 HKX HKW HX2 HLO
 obtain ⟨Y0,hY0⟩:=qq (X.alloc (.map #[] 0))
 obtain ⟨gm,hgm⟩:=qq (gG+1)
 rw [<-hY0,<-hgm]
 have HY0:Hi (SetN Y0 gm 0 (fun _=>false)):=by rw [hY0,hgm,<-HXS.o];exact SetN.made X
 have HK0:Hi (Ok X Y0):=by rw [hY0];exact (Ok.refl _).alloc _
 have HGM:Hi (X.heap.size=gm):=by rw [hgm];exact HXS.o
 clear hY0 hgm
 go_wp2_with fail
 go_loopw [11] (fun t wr=>∃ i:Nat,t=.int .i64 (i:Nat)/\i<=mn/\Hi (SetN wr gm i (fun n=>decide (n∈ml.take i)))/\Hi (Ok X wr)) (fun t _=>mn-(intOf t).toNat)
 case atStart=>exact ⟨0,rfl,Nat.zero_le _,by simpa [Hi] using HY0.o,HK0⟩
 clear HY0 HK0
 obtain ⟨i,rfl,hi,HM,HK⟩:=hrel
 obtain ⟨_,_,t2,_⟩:=za9 (Ok.row' HK.o HTX.o)
 have lt:=za2 (Ok.row' HK.o HTX.o)
 by_cases hil:i<mn
 ·have hil':(i:Int)<(mn:Int):=za5 hil
  have hiw:IntKind.i64.wrap ((i:Int)+1)=((i+1:Nat):Int):=zb3 (by have:=HLN.o;have:=HFF.o.mlen;omega)
  obtain ⟨y,hy⟩:∃ y,ml[i]?=some y:=⟨_,List.getElem?_eq_getElem (by have:=HLN.o;omega)⟩
  have HB1:=HFF.o.mlb y (List.mem_of_getElem? hy)
  have hbN:=HFF.o.small.2.2.2.2
  have HB:Hi (-9223372036854775808<=y/\y<=9223372036854775807):=by unfold Hi;omega
  have HNX:Hi ((fun n=>n==y||decide (n∈ml.take i))=fun n=>decide (n∈ml.take (i+1))):=by
   unfold Hi
   funext n
   rw [zm0 hy]
   by_cases c:n=y
   ·simp [c]
   simp [c]
  have ho:=za1 HMX.o HK.o
  obtain ⟨mb,cp,e1,_⟩:=ho.form (by omega)
  injection e1 with e1 e6 e7
  clear e6
  subst e1 e7
  have c0:=ho.cells (g:=mb) rfl _ _ (zk6 hy)
  have hlm:=(ho.lt mb rfl).2
  rw [zb7,Nat.zero_add] at c0
  have HC0:Hi (wr.cell? ⟨mb,i,none⟩=some (.int .i64 y)/\mb<wr.heap.size):=⟨c0,hlm⟩
  obtain ⟨w9,hw9⟩:∃ z:World->World,z=id:=⟨_,rfl⟩
  have hgo:∀ nq,∃ w',(Instr.mapUpdate 45 (.map (some gm)) (.int .i64 y) (.bool true)).run Tryz.prog (wr.drewN nq)=.ok () w'/\Hi (SetN w' gm (i+1) (fun n=>decide (n∈ml.take (i+1))))/\Hi (Ok X w'):=fun nq=>by
   obtain ⟨w',a1,a2,a3⟩:=(HM.o.ok (below_drewN (Ok.refl wr) nq)).put Tryz.underlying45 HB.o.1 HB.o.2 (by have:=HLN.o;have:=HFF.o.mlen;unfold maxLen;omega)
   rw [HNX.o] at a2
   have k9:Ok X (wr.drewN nq):=below_drewN HK.o nq
   exact ⟨w',a1,a2,k9.grown a3 (fun b e=>by injection e with e;have:=HGM.o;omega)⟩
  have HGO:=hid hgo
  clear hgo hw9 w9
  as_aux_lemma =>
  by_cases hi0:i=0
  ·subst hi0
   clear hbN HB1 hy ho HNX HB
   go_wp2_with fail
   go_quiet (fail)
   obtain ⟨w2,hput,HM2,HK2⟩:=HGO.o nq
   go_wp2_with fail
   go_roundw
   case rel=>exact ⟨_,rfl,hil,HM2,HK2⟩
   case measure=>simp only [intOf,Int.toNat_natCast];omega
  obtain ⟨j,hj⟩:∃ j,i=j+1:=⟨i-1,by omega⟩
  obtain ⟨z,hz⟩:∃ z,ml[j]?=some z:=⟨_,List.getElem?_eq_getElem (by have:=HLN.o;omega)⟩
  have hzy:z<y:=by
   obtain ⟨a1,b1⟩:=List.getElem?_eq_some_iff.1 hz
   obtain ⟨a2,b2⟩:=List.getElem?_eq_some_iff.1 hy
   have:=(List.pairwise_iff_getElem.1 HFF.o.rise) j i a1 a2 (by omega)
   rw [b1,b2] at this
   exact this
  have d0:=ho.cells (g:=mb) rfl _ _ (zk6 hz)
  rw [zb7,Nat.zero_add] at d0
  have hi1:(0:Int)<(i:Int):=by omega
  have hi2:0<i:=by omega
  have hi3:decide (0<i)=true:=decide_eq_true hi2
  have hi4:decide ((0:Int)<(i:Int))=true:=decide_eq_true hi1
  have hzy':¬(y<=z):=by omega
  have hjw:IntKind.i64.wrap ((i:Int)-1)=(j:Int):=by rw [IntKind.wrap_i64];have:=HLN.o;have:=HFF.o.mlen;omega
  have hjl:(j:Int)<(mn:Int):=by omega
  have hj0:¬((mn:Int)<=(j:Int)):=by omega
  clear hbN HB1 hy hz ho HNX HB hi0 hj hzy
  go_wp2_with fail
  go_quiet (fail)
  obtain ⟨w2,hput,HM2,HK2⟩:=HGO.o nq
  go_wp2_with fail
  go_roundw
  case rel=>exact ⟨_,rfl,hil,HM2,HK2⟩
  case measure=>simp only [intOf,Int.toNat_natCast];omega
 have hil':¬(i:Int)<(mn:Int):=by omega
 have HM1:Hi (SetN wr gm mn (fun n=>decide (n∈ml))):=by have h:=HM.o;have h2:=HLN.o;unfold Hi;rw [show i=mn by omega,h2.2.2,List.take_length] at h;rw [h2.2.2];exact h
 obtain ⟨gn,hgn⟩:=qq (wr.heap.size)
 obtain ⟨Z,hZ⟩:=qq (((wr.alloc (.map #[] 0)).alloc (.map #[] 0)).alloc (.map #[] 0))
 obtain ⟨Z4,hput,HS4⟩:∃ w',(Instr.mapUpdate 45 (.map (some (gn+1+1))) (.int .i64 0) (.bool true)).run Tryz.prog Z=.ok () w'/\Hi (HS X gm gn (gn+1) (gn+1+1) (fun n=>decide (n∈ml)) (fun n=>(many (vs.take 0) n:Int)) (((vs.take 0).map (atV Lib.itoa)).reverse) (ledB ls 0) mn 0 0 1 w'):=by
  have hs:HS X gm gn (gn+1) (gn+1+1) (fun n=>decide (n∈ml)) (fun _=>0) [] (fun _=>false) mn 0 0 0 Z:=by
   rw [hZ,hgn]
   have k1:Ok wr (wr.alloc (.map #[] 0)):=(Ok.refl _).alloc _
   have k2:Ok (wr.alloc (.map #[] 0)) ((wr.alloc (.map #[] 0)).alloc (.map #[] 0)):=(Ok.refl _).alloc _
   have k3:Ok ((wr.alloc (.map #[] 0)).alloc (.map #[] 0)) (((wr.alloc (.map #[] 0)).alloc (.map #[] 0)).alloc (.map #[] 0)):=(Ok.refl _).alloc _
   have z1:(wr.alloc (.map #[] 0)).heap.size=wr.heap.size+1:=by simp
   have z2:((wr.alloc (.map #[] 0)).alloc (.map #[] 0)).heap.size=wr.heap.size+1+1:=by simp
   refine ⟨HK.o.step (k1.step (k2.step k3)),HM1.o.ok (k1.step (k2.step k3)),(NumN.made wr).ok (k2.step k3),?_,?_,?_⟩
   ·have h:=(SetS.made (wr.alloc (.map #[] 0))).ok k3
    rw [z1] at h;exact h
   ·have h:=SetN.made ((wr.alloc (.map #[] 0)).alloc (.map #[] 0))
    rw [z2] at h;exact h
   have h1:=HM1.o.lt
   have h2:=HGM.o
   omega
  obtain ⟨w',a1,a2,_⟩:=hs.putL Tryz.underlying45 (x:=0) ⟨by decide,by decide⟩ (by unfold maxLen;decide)
  have e1:(fun y:Int=>y==0||false)=ledB ls 0:=by funext j;simp [ledB]
  have e2:(fun _:Int=>(0:Int))=fun n=>(many (vs.take 0) n:Int):=by funext n;simp [many]
  rw [e1,e2] at a2
  exact ⟨w',a1,a2⟩
 rw [hgn,hZ] at hput
 clear hil HM HM1 hi
 go_wp2_with fail
 rw [<-hgn]
 obtain ⟨gs,hgs⟩:=qq (gn+1)
 obtain ⟨gl,hgl⟩:=qq (gn+1+1)
 rw [<-hgl,<-hgs] at HS4 ⊢
 clear hgs hgl hput hgn hZ t2 lt HK hil' HGM HMX
 as_aux_lemma =>
 go_loopw [15,16] (fun t15 t16 wr=>∃ v:Nat,t16=.int .i64 (v:Nat)/\v<=vn/\t15=.int .i64 (B v:Nat)/\Hi (HS X gm gn gs gl (fun n=>decide (n∈ml)) (fun n=>(many (vs.take v) n:Int)) (((vs.take v).map (atV Lib.itoa)).reverse) (ledB ls (B v)) mn v v (B v+1) wr)) (fun _ t16 _=>vn-(intOf t16).toNat)
 case atStart=>exact ⟨0,rfl,Nat.zero_le _,by rw [HFF.o.b0];rfl,by rw [HFF.o.b0];exact HS4⟩
 clear HS4
 obtain ⟨v,rfl,hv,rfl,HW⟩:=hrel
 obtain ⟨t0,t1,t2,_⟩:=za9 (Ok.row' HW.o.ok HTX.o)
 have lt:=za2 (Ok.row' HW.o.ok HTX.o)
 by_cases hvl:v<vn
 ·have hvl':(v:Int)<(vn:Int):=za5 hvl
  have hvw:IntKind.i64.wrap ((v:Int)+1)=((v+1:Nat):Int):=zb3 (by have:=HLN.o;have:=HFF.o.small;omega)
  obtain ⟨nd,hnd⟩:∃ y,vs[v]?=some y:=⟨_,List.getElem?_eq_getElem (by have:=HLN.o;omega)⟩
  obtain ⟨tk,htk⟩:∃ y,tl[v]?=some y:=⟨_,List.getElem?_eq_getElem (by have:=HLN.o;have:=HTL.o;omega)⟩
  obtain ⟨hv',lv'⟩:=tk
  have HTI:Hi (TokIs X hv' lv' nd.2):=(HTTX.o v nd (hv',lv') hnd htk).is
  have HTB:Hi (TkB 100000 nd.2):=HFF.o.tkb nd (List.mem_of_getElem? hnd)
  have HND:Hi (vs[v]?=some nd):=hnd
  have HNB:Hi (0<=nd.1/\nd.1<(N:Int)/\N<=1000):=by have h1:=HFF.o.node nd (List.mem_of_getElem? hnd);exact ⟨h1.1,h1.2,HFF.o.small.2.2.2.2⟩
  have ho:=za1 HVX.o HW.o.ok
  obtain ⟨vb,cp,e1,_⟩:=ho.form (by omega)
  injection e1 with e1 e6 e7
  clear e6
  subst e1 e7
  obtain ⟨x0,x1,x2,x3⟩:=zA2 hnd htk
  have c0:=ho.cells (g:=vb) rfl _ _ x0
  have c1:=ho.cells (g:=vb) rfl _ _ x1
  have c2:=ho.cells (g:=vb) rfl _ _ x2
  have c3:=ho.cells (g:=vb) rfl _ _ x3
  rw [zb7,Nat.zero_add] at c0 c1 c2 c3
  have hlv:=(ho.lt vb rfl).2
  clear x0 x1 x2 x3 ho hnd htk
  obtain ⟨_,_,ho1,hc1,f1,_⟩:=HTI.o.hist
  obtain ⟨_,_,lo1,lc1,f2,_⟩:=HTI.o.loops
  subst f1 f2
  obtain ⟨node,tm,ths,tls⟩:=nd
  obtain ⟨a1,ha1⟩:=qq (ths.length)
  obtain ⟨a2,ha2⟩:=qq (tls.length)
  simp only [<-ha1,<-ha2] at HTI c0 c1 c2 c3
  clear ha1 ha2
  go_wp2_with fail
  as_aux_lemma =>
  obtain ⟨A,hA⟩:=qq (wr.alloc (Obj.cells #[.int .i64 node,.bool tm,.slice ho1 a1 hc1,.slice lo1 a2 lc1] 52))
  obtain ⟨gx,hgx⟩:=qq (wr.heap.size)
  rw [<-hA,<-hgx]
  have HAK:Hi (Ok wr A):=by rw [hA];exact (Ok.refl _).alloc _
  have HXA:Hi (A.heap[gx]?=some (.cells #[.int .i64 node,.bool tm,.slice ho1 a1 hc1,.slice lo1 a2 lc1] 52 (0,0))):=by rw [hA,hgx];exact za3 _ _
  have HGX0:Hi (X.heap.size<=gx/\gl<gx):=by unfold Hi;rw [hgx];exact ⟨HW.o.ok.le,HW.o.l.lt⟩
  clear hA hgx t0 t1 t2 lt c0 c1 c2 c3 hlv
  refine (HKY.o A _ _ (tm,ths,tls) (HXX.o.step (HW.o.ok.step HAK.o)) (HTI.o.below (HW.o.ok.step HAK.o)) HTB.o).mono ?_
  rintro e K1 ⟨rfl,hk1⟩
  have HX1:Hi (K1.heap[gx]?=_):=Ok.row' hk1 HXA.o
  have HW1:=hid (HW.o.step (HAK.o.step hk1))
  have HK1':Hi (Ok wr K1):=HAK.o.step hk1
  obtain ⟨ks,hks⟩:=qq (keyT Lib.itoa (tm,ths,tls))
  have HKS:=hid hks
  rw [<-hks]
  obtain ⟨cn,hcn⟩:=qq (many (vs.take v) node)
  have HCN:=hid hcn
  have hI:I64 node:=⟨by have:=HNB.o;omega,by have:=HNB.o;omega⟩
  have hcap:((cn:Int)+1)<=c 2:=by
   have h1:=HFF.o.cnt (v+1) node
   have h2:=congrFun (zH3 HND.o) node
   simp only [if_true] at h2
   rw [h2,<-hcn] at h1
   exact h1
  have hcnb:(cn:Int)<=2000:=by
   have h1:many (vs.take v) node<=(vs.take v).length:=List.countP_le_length
   rw [List.length_take] at h1
   have:=HFF.o.small
   omega
  have hlk:(Instr.lookup 46 (.map (some gn)) (.int .i64 node) false).run Tryz.prog K1=.ok (.int .i64 (cn:Int)) K1:=by rw [hcn];exact HW1.o.n.look Tryz.underlying46 hI.1 hI.2
  obtain ⟨K2,hput,hs2,hg2⟩:=HW1.o.putN Tryz.underlying46 (x:=node) (z:=(cn:Int)+1) hI ⟨by omega,by omega⟩ (by have:=HLN.o;have:=HFF.o.small;unfold maxLen;omega)
  have kwc:IntKind.i64.wrap ((cn:Int)+1)=(cn:Int)+1:=by rw [IntKind.wrap_i64];omega
  have hlk2:(Instr.lookup 46 (.map (some gn)) (.int .i64 node) false).run Tryz.prog K2=.ok (.int .i64 ((cn:Int)+1)) K2:=by have h:=hs2.n.look Tryz.underlying46 hI.1 hI.2;simpa using h
  have hled:(Instr.lookup 45 (.map (some gl)) (.int .i64 (v:Int)) false).run Tryz.prog K2=.ok (.bool true) K2:=by
   have h:=hs2.l.look Tryz.underlying45 (x:=(v:Int)) (by omega) (by have:=HLN.o;have:=HFF.o.small;omega)
   have e:ledB ls (B v) (v:Int)=true:=by
    unfold ledB
    by_cases c:v=0
    ·rw [c];rfl
    obtain ⟨l,m1,m2⟩:=HFF.o.led v (by omega) (by have:=HLN.o;omega)
    rw [Bool.or_eq_true]
    exact .inr (List.any_eq_true.2 ⟨l,m1,by rw [m2];simp⟩)
   rw [e] at h
   exact h
  have hC2:(fun y:Int=>if y=node then (cn:Int)+1 else (many (vs.take v) y:Int))=fun n=>(many (vs.take (v+1)) n:Int):=by rw [zH3 HND.o,hcn]
  rw [hC2] at hs2
  have HW2:=hid hs2
  obtain ⟨mg,hmg⟩:=qq (decide (node∈ml))
  have hmlk:(Instr.lookup 45 (.map (some gm)) (.int .i64 node) false).run Tryz.prog K2=.ok (.bool mg) K2:=by rw [hmg];exact hs2.m.look Tryz.underlying45 hI.1 hI.2
  have hmt:(mg=true/\tm=true)\/mg=false:=by
   cases hm:mg with
   | false=>exact .inr rfl
   | true=>exact .inl ⟨rfl,HFF.o.mgt (node,tm,ths,tls) (List.mem_of_getElem? HND.o) (by rw [<-HFF.o.mgd node,<-hmg];exact hm)⟩
  have HK2':Hi (X.heap.size<=K2.heap.size/\K2.heap[gx]?=some (.cells #[.int .i64 node,.bool tm,.slice ho1 a1 hc1,.slice lo1 a2 lc1] 52 (0,0))):=⟨hs2.ok.le,(hg2.block gx (za2 HX1.o) (by have h1:=HGX0.o;have h2:=HW.o.ord;simp;omega)).trans HX1.o⟩
  have hcp':¬(c 2<(cn:Int)+1):=by omega
  have hn0:¬(node<0):=by have:=HNB.o;omega
  have hnN:¬((N:Int)<=node):=by have:=HNB.o;omega
  obtain ⟨y0,y1,y2,y3,y4⟩:=za6 HX1.o
  obtain ⟨z0,z1,z2,z3,z4⟩:=za6 HK2'.o.2
  have ly:=za2 HX1.o
  have lz:=za2 HK2'.o.2
  obtain ⟨p0,p1,p2,p3,p4,p5,p6,p7,p8,lgp⟩:=row9 (Ok.row' HW2.o.ok HCX.o)
  obtain ⟨q0,q1,q2,q3,q4,q5,q6,q7,q8,lgq⟩:=row9 (Ok.row' HW2.o.ok HGX.o)
  have HMG:=hid hmg
  obtain ⟨s1,hs1⟩:=qq (ks++wAt)
  obtain ⟨rb,hrb⟩:=qq (runeB (node+64).toNat)
  obtain ⟨s2,hs2'⟩:=qq (s1++rb)
  have HS2:Hi (s2=atV Lib.itoa (node,tm,ths,tls)):=by unfold Hi atV;rw [hs2',hs1,hks,hrb]
  have hkl:ks.length<=6700000:=by
   rw [hks]
   exact yr9 HTB.o
  have hrl:rb.length<=2:=by rw [hrb];unfold runeB;split<;>simp
  have hz1:s1.length<=6700004:=by rw [hs1,List.length_append];have:wAt.length=4:=rfl;omega
  have hz2:s2.length<=6700006:=by rw [hs2',List.length_append];omega
  have A1:(Op.stringOp .add ⟨ks.toArray⟩ ⟨#[32,97,116,32]⟩).run Tryz.prog K2=.ok (.string ⟨s1.toArray⟩) K2:=strA K2 hs1 (by omega)
  have A2:(Op.stringOp .add ⟨s1.toArray⟩ ⟨rb.toArray⟩).run Tryz.prog K2=.ok (.string ⟨s2.toArray⟩) K2:=strA K2 hs2' (by omega)
  have A3:=yh3 K2 (r:=node+64) (by have:=HNB.o;omega) (by have:=HNB.o;omega)
  have A4:=ys0 K2 (r:=node+64) (by have:=HNB.o;omega) (by have:=HNB.o;omega)
  rw [<-hrb] at A4
  have kw64:IntKind.i64.wrap (node+64)=node+64:=by rw [IntKind.wrap_i64];have:=HNB.o;omega
  have A5:(Instr.lookup 47 (.map (some gs)) (.string ⟨s2.toArray⟩) false).run Tryz.prog K2=.ok (.bool false) K2:=by
   have h:=hs2.s.look Tryz.underlying47 (s:=⟨s2.toArray⟩) (by unfold maxLen;simp [ByteArray.size];omega)
   have e:decide ((⟨s2.toArray⟩:ByteArray).data.toList∈((vs.take v).map (atV Lib.itoa)).reverse)=false:=by
    rw [decide_eq_false_iff_not]
    show ¬(s2.toArray.toList∈_)
    rw [List.toList_toArray,HS2.o,List.mem_reverse]
    exact HFF.o.key v _ HND.o
   rw [e] at h
   exact h
  obtain ⟨K3,hput3,hs3,hg3⟩:=hs2.putS Tryz.underlying47 (s:=⟨s2.toArray⟩) (by unfold maxLen;simp [ByteArray.size];omega) (by have:=HLN.o;have:=HFF.o.small;unfold maxLen;omega)
  have e3:(⟨s2.toArray⟩:ByteArray).data.toList::((vs.take v).map (atV Lib.itoa)).reverse=((vs.take (v+1)).map (atV Lib.itoa)).reverse:=by
   show s2.toArray.toList::_=_
   rw [List.toList_toArray,zm0 HND.o,List.map_append,List.reverse_append,HS2.o]
   rfl
  rw [e3] at hs3
  have HW3:=hid hs3
  have HX3:Hi (K3.heap[gx]?=some (.cells #[.int .i64 node,.bool tm,.slice ho1 a1 hc1,.slice lo1 a2 lc1] 52 (0,0))):=(hg3.block gx (za2 HK2'.o.2) (by have h1:=HGX0.o;have h2:=HW.o.ord;simp;omega)).trans HK2'.o.2
  clear hk1 hks hcn hI hcap hcnb hC2 hs2 HXA HAK HW1 hmg hs1 hrb hs2' hkl hrl hz1 hz2 e3 hs3 hg3 hg2
  as_aux_lemma =>
  go_upto_region 23 with (fail)
  go_cut [141] from 85 to 273 (fun s141 wx=>s141=.bool false/\wx=K2)
  case first =>
   rcases hmt with ⟨hm,ht⟩ | hm
   ·subst hm
    subst ht
    go_wp2_with fail
    go_meet
    case rel=>exact ⟨by simp [hcp',hn0,hnN],rfl⟩
   subst hm
   go_wp2_with fail
   go_meet
   case rel=>exact ⟨by simp [hcp',hn0,hnN],rfl⟩
  obtain ⟨rfl,rfl⟩:=hcut
  as_aux_lemma =>
  go_wp2_with fail
  clear A1 A2 A3 A4 A5 kw64 hput hput3 hlk hlk2 hled hmlk kwc hcp' hn0 hnN hmt y0 y1 y2 y3 y4 z0 z1 z2 z3 z4 ly lz p0 p1 p2 p3 p4 p5 p6 p7 p8 lgp q0 q1 q2 q3 q4 q5 q6 q7 q8 lgq
  as_aux_lemma =>
  go_loopw [15,19] (fun t15 t19 wr=>∃ k:Nat,t19=.int .i64 (k:Nat)/\k<=em/\t15=.int .i64 ((B v+(outP es node k).length:Nat):Int)/\Hi (HS X gm gn gs gl (fun n=>decide (n∈ml)) (fun n=>(many (vs.take (v+1)) n:Int)) (((vs.take (v+1)).map (atV Lib.itoa)).reverse) (ledB ls (B v+(outP es node k).length)) mn (v+1) (v+1) (B v+(outP es node k).length+1) wr)/\Hi (wr.heap[gx]?=some (.cells #[.int .i64 node,.bool tm,.slice ho1 a1 hc1,.slice lo1 a2 lc1] 52 (0,0)))) (fun _ t19 _=>em-(intOf t19).toNat)
  case atStart=>exact ⟨0,rfl,Nat.zero_le _,by rw [zs9];rfl,by rw [zs9];exact HW3,HX3⟩
  clear HW3 HX3 HW2
  obtain ⟨k,rfl,hk,rfl,HW3,HX3⟩:=hrel
  obtain ⟨q0,q1,q2,q3,q4,q5,q6,q7,q8,lgq⟩:=row9 (Ok.row' HW3.o.ok HGX.o)
  by_cases hkl:k<em
  ·have hkl':(k:Int)<(em:Int):=za5 hkl
   have hkw:IntKind.i64.wrap ((k:Int)+1)=((k+1:Nat):Int):=zb3 (by have:=HEM.o;omega)
   obtain ⟨ed,hed⟩:∃ y,es[k]?=some y:=⟨_,List.getElem?_eq_getElem (by have:=HEM.o;omega)⟩
   have HED:Hi (es[k]?=some ed):=hed
   have ho:=za1 HEX.o HW3.o.ok
   obtain ⟨eb,cp,e1,_⟩:=ho.form (by omega)
   injection e1 with e1 e6 e7
   clear e6
   subst e1 e7
   have hcl:∀ j u,(edV ed)[j]?=some u->wr.cell? ⟨eb,k*6+j,none⟩=some u:=fun j u hj=>by
    have h1:=ho.cells (g:=eb) rfl (k*6+j) u (zp6 hed j u hj)
    rw [zb7,Nat.zero_add] at h1
    exact h1
   have r0:wr.cell? ⟨eb,k*6,none⟩=some (.int .i64 ed.from'):=hcl 0 _ rfl
   have r1:wr.cell? ⟨eb,k*6+1,none⟩=some (.int .i64 ed.to'):=hcl 1 _ rfl
   have hle:=(ho.lt eb rfl).2
   obtain ⟨y0,y1,y2,y3,y4⟩:=za6 HX3.o
   have ly:=za2 HX3.o
   clear hcl ho hed
   by_cases hfr:ed.from'=node
   ·subst hfr
    obtain ⟨l,hl,hl1,hl2,hl3⟩:=HFF.o.link v k _ ed HND.o HED.o rfl
    obtain ⟨at',hat⟩:=qq (B v+(outP es ed.from' k).length)
    have HAT:=hid hat
    rw [<-hat] at hl HW3 ⊢
    obtain ⟨l0,j,l2⟩:=l
    simp only at hl1 hl2 hl3
    subst hl1 hl2
    have HJ:Hi (vs[j]?=some (ed.to',p.tok ed.to' (stepT p.H p.U ed l2 (tm,ths,tls)))):=hl3
    have HL:Hi (ls[at']?=some (l0,j,l2)):=hl
    have hal:at'<ln:=by have h1:=(List.getElem?_eq_some_iff.1 hl).1;have h2:=HLN.o;omega
    have hal':(at':Int)<(ln:Int):=za5 hal
    have hag:¬((ln:Int)<=(at':Int)):=by omega
    have hjl:j<vn:=by have h1:=(List.getElem?_eq_some_iff.1 hl3).1;have h2:=HLN.o;omega
    have hjl':(j:Int)<(vn:Int):=za5 hjl
    have hjg:¬((vn:Int)<=(j:Int)):=by omega
    have hj0:¬((j:Int)<0):=by omega
    have ho:=za1 HLX.o HW3.o.ok
    obtain ⟨lb,cp,e1,_⟩:=ho.form (by omega)
    injection e1 with e1 e6 e7
    clear e6
    subst e1 e7
    obtain ⟨x0,x1,x2⟩:=zA3 hl
    have m0:=ho.cells (g:=lb) rfl _ _ x0
    have m1:=ho.cells (g:=lb) rfl _ _ x1
    have m2:=ho.cells (g:=lb) rfl _ _ x2
    rw [zb7,Nat.zero_add] at m0 m1 m2
    have hll:=(ho.lt lb rfl).2
    obtain ⟨t0,t1,t2,_⟩:=za9 (Ok.row' HW3.o.ok HTX.o)
    have lt:=za2 (Ok.row' HW3.o.ok HTX.o)
    obtain ⟨tk2,htk2⟩:∃ y,tl[j]?=some y:=⟨_,List.getElem?_eq_getElem (by have:=HLN.o;have:=HTL.o;omega)⟩
    obtain ⟨hv2,lv2⟩:=tk2
    have HTI2:Hi (TokIs X hv2 lv2 (p.tok ed.to' (stepT p.H p.U ed l2 (tm,ths,tls)))):=(HTTX.o j _ (hv2,lv2) HJ.o htk2).is
    have HC35:Hi (∀ Y,Ok wr Y->Y.cell? ⟨gT,0,none⟩=some (.slice (some ⟨vb,0,none⟩) vn vc)/\Y.cell? ⟨gT,1,none⟩=some (.slice (some ⟨lb,0,none⟩) ln lc)/\gT<Y.heap.size/\Y.cell? ⟨lb,at'*3+1,none⟩=some (.int .i64 (j:Nat))/\lb<Y.heap.size/\Y.cell? ⟨vb,j*4,none⟩=some (.int .i64 ed.to')/\Y.cell? ⟨vb,j*4+1,none⟩=some (.bool (p.tok ed.to' (stepT p.H p.U ed l2 (tm,ths,tls))).1)/\Y.cell? ⟨vb,j*4+2,none⟩=some hv2/\Y.cell? ⟨vb,j*4+3,none⟩=some lv2/\vb<Y.heap.size):=fun Y hY=>by
     have ho2:=za1 HVX.o (HW3.o.ok.step hY)
     obtain ⟨v0,v1,v2,v3⟩:=zA2 HJ.o htk2
     have b0:=ho2.cells (g:=vb) rfl _ _ v0
     have b1:=ho2.cells (g:=vb) rfl _ _ v1
     have b2:=ho2.cells (g:=vb) rfl _ _ v2
     have b3:=ho2.cells (g:=vb) rfl _ _ v3
     rw [zb7,Nat.zero_add] at b0 b1 b2 b3
     exact ⟨hY.cell (p:=⟨gT,0,none⟩) lt t0,hY.cell (p:=⟨gT,1,none⟩) lt t1,Nat.lt_of_lt_of_le lt hY.le,hY.cell (p:=⟨lb,at'*3+1,none⟩) hll m1,Nat.lt_of_lt_of_le hll hY.le,b0,b1,b2,b3,(ho2.lt vb rfl).2⟩
    obtain ⟨ym,hym⟩:=qq ((p.tok ed.to' (stepT p.H p.U ed l2 (tm,ths,tls))).1)
    have HYM:=hid hym
    rw [<-hym] at HC35
    obtain ⟨yo,yn,yc,hy1⟩:∃ o n c,hv2=.slice o n c:=by obtain ⟨_,_,o,c,e,_⟩:=HTI2.o.hist;exact ⟨_,_,_,e⟩
    obtain ⟨zo,zn,zc,hy2⟩:∃ o n c,lv2=.slice o n c:=by obtain ⟨_,_,o,c,e,_⟩:=HTI2.o.loops;exact ⟨_,_,_,e⟩
    subst hy1 hy2
    clear x0 x1 x2 ho hl hl3 hat htk2 hym
    go_wp2_with fail
    go_quiet (fail)
    obtain ⟨nqa,hn2⟩:=qq (nq)
    rw [<-hn2]
    clear hn2
    go_wp2_with fail
    go_quiet (fail)
    as_aux_lemma =>
    go_upto_region 35 with (fail)
    have S0:Ok wr ((wr.drewN nqa).drewN nq).drew:=Below.drew (below_drewN (below_drewN (Ok.refl wr) _) _)
    obtain ⟨V,hV⟩:=qq ((wr.drewN nqa).drewN nq)
    rw [<-hV] at S0 ⊢
    clear hV m0 m1 m2 t0 t1 t2 lt r0 r1 hle q0 q1 q2 q3 q4 q5 q6 q7 q8 lgq y0 y1 y2 y3 y4 ly hll
    refine zd5 (fun Y=>Ok wr Y) 11 (by kernel_rfl) ?_
    obtain ⟨D,hD⟩:=qq (V.drew)
    rw [<-hD] at S0 ⊢
    clear hD
    refine tL 0 (.pointer (some ⟨gT,0,none⟩)) S0 ?_ ?_
    ·intro w' s0;clear s0;go_simp;try with_reducible rfl
    simp only [pu]
    refine tL 1 (.slice (some ⟨vb,0,none⟩) vn vc) S0 ?_ ?_
    ·intro w' s0;obtain ⟨z0,z1,z2,z3,z4,z5,z6,z7,z8,z9⟩:=HC35.o w' s0;clear s0;go_simp;try with_reducible rfl
    simp only [pu]
    refine tL 2 (.pointer (some ⟨gT,1,none⟩)) S0 ?_ ?_
    ·intro w' s0;clear s0;go_simp;try with_reducible rfl
    simp only [pu]
    refine tL 3 (.slice (some ⟨lb,0,none⟩) ln lc) S0 ?_ ?_
    ·intro w' s0;obtain ⟨z0,z1,z2,z3,z4,z5,z6,z7,z8,z9⟩:=HC35.o w' s0;clear s0;go_simp;try with_reducible rfl
    simp only [pu]
    refine tL 4 (.int .i64 (at':Nat)) S0 ?_ ?_
    ·intro w' s0;clear s0;go_simp;try with_reducible rfl
    simp only [pu]
    refine tL 5 (.pointer (some ⟨lb,at'*3,none⟩)) S0 ?_ ?_
    ·intro w' s0;have u7:(0:Int)<=(at':Int):=(by omega);have u8:¬((ln:Int)<=(at':Int)):=(by omega);clear s0;go_simp;try with_reducible rfl
    simp only [pu]
    refine tL 6 (.pointer (some ⟨lb,at'*3+1,none⟩)) S0 ?_ ?_
    ·intro w' s0;clear s0;go_simp;try with_reducible rfl
    simp only [pu]
    refine tL 7 (.int .i64 (j:Nat)) S0 ?_ ?_
    ·intro w' s0;obtain ⟨z0,z1,z2,z3,z4,z5,z6,z7,z8,z9⟩:=HC35.o w' s0;clear s0;go_simp;try with_reducible rfl
    simp only [pu]
    refine tL 8 (.pointer (some ⟨vb,j*4,none⟩)) S0 ?_ ?_
    ·intro w' s0;have u7:(0:Int)<=(j:Int):=(by omega);have u8:¬((vn:Int)<=(j:Int)):=(by omega);clear s0;go_simp;try with_reducible rfl
    simp only [pu]
    refine tL 9 (.agg #[.int .i64 ed.to',.bool ym,.slice yo yn yc,.slice zo zn zc]) S0 ?_ ?_
    ·intro w' s0;obtain ⟨z0,z1,z2,z3,z4,z5,z6,z7,z8,z9⟩:=HC35.o w' s0;clear s0;go_simp;try with_reducible rfl
    simp only [pu]
    refine zb0 (i:=10) (by kernel_rfl) rfl (fun K hK=>?_)
    go_simp
    refine hK.out _ _ (fun _=>S0.alloc _) ?_
    clear hK K
    try simp only [pu]
    refine zb0 (i:=11) (by kernel_rfl) rfl (fun K hK=>?_)
    refine zg9 rfl 52 _ _ rfl D.heap.size 52 _ #[.int .i64 ed.to',.bool ym,.slice yo yn yc,.slice zo zn zc] (by rfl) (by rfl) (za3 _ _) (by kernel_rfl) rfl (by simp [Value.oneCell']) rfl ?_
    refine hK.out _ _ (fun h=>absurd rfl h) ?_
    clear hK K
    refine zd4 (by kernel_rfl) ?_ _
    as_aux_lemma =>
    obtain ⟨E,hE⟩:=qq ((D.alloc (Obj.cells #[.int .i64 0,.bool false,.slice none 0 0,.slice none 0 0] 52)).setRow D.heap.size #[.int .i64 ed.to',.bool ym,.slice yo yn yc,.slice zo zn zc])
    obtain ⟨gy,hgy⟩:=qq (D.heap.size)
    rw [<-hE,<-hgy]
    have HEK:Hi (Ok wr E):=by rw [hE];exact zd0 (S0.alloc _) S0.le _
    have HYE:Hi (E.heap[gy]?=some (.cells #[.int .i64 ed.to',.bool ym,.slice yo yn yc,.slice zo zn zc] 52 (0,0))):=by rw [hE,hgy];exact setRow_heap _ _ _ _ _ _ (za3 _ _)
    have HKX3:Hi (Ok X E):=HW3.o.ok.step HEK.o
    have HX4:Hi (E.heap[gx]?=_):=Ok.row' HEK.o HX3.o
    clear hE hgy S0 HC35
    obtain ⟨q0,q1,q2,q3,q4,q5,lgq⟩:=row6 (Ok.row' HKX3.o HPX.o)
    obtain ⟨p0,p1,p2,p3,p4,p5,p6,p7,p8,lgp⟩:=row9 (Ok.row' HKX3.o HCX.o)
    obtain ⟨y0,y1,y2,y3,y4⟩:=za6 HX4.o
    have ly:=za2 HX4.o
    go_wp2_with fail
    refine (HST.o E _ _ (tm,ths,tls) l2 ed (HXX.o.step HKX3.o) HED.o (HTI.o.below HKX3.o) HTB.o).mono ?_
    rintro e F1 ⟨hv',lv',rfl,hto,hkF⟩
    obtain ⟨uo,uc,rfl⟩:=za0 hto.hist
    obtain ⟨so,sc,rfl⟩:=za0 hto.loops
    obtain ⟨st,hst⟩:=qq (stepT p.H p.U ed l2 (tm,ths,tls))
    have hst2:stepT (c 0) (c 1) ed l2 (tm,ths,tls)=st:=by rw [hst,HHU.o.1,HHU.o.2]
    rw [hst2] at hto ⊢
    rw [<-hst] at HJ HTI2 HYM
    have HTS:=hid hto.is
    have HKF:Hi (Ok wr F1):=HEK.o.step hkF
    have HFY:Hi (F1.heap[gy]?=_):=Ok.row' hkF HYE.o
    obtain ⟨sm,hsm⟩:=qq (st.1)
    obtain ⟨un,hun⟩:=qq (st.2.1.length)
    obtain ⟨sn,hsn⟩:=qq (st.2.2.length)
    have HSM:=hid hsm
    rw [<-hsm,<-hun,<-hsn]
    rw [<-hun,<-hsn] at HTS
    clear hto hkF hst hst2 hsm hun hsn HYE HX4 HKX3 HEK q0 q1 q2 q3 q4 q5 p0 p1 p2 p3 p4 p5 p6 p7 p8 y0 y1 y2 y3 y4 ly lgq lgp
    as_aux_lemma =>
    go_upto_region 37 with (fail)
    obtain ⟨G,hG⟩:=qq (F1.alloc (Obj.cells #[.bool sm,.slice uo un uc,.slice so sn sc] 50))
    obtain ⟨gw,hgw⟩:=qq (F1.heap.size)
    rw [<-hG,<-hgw]
    have HGF:Hi (Ok F1 G):=by rw [hG];exact (Ok.refl _).alloc _
    have HGK:Hi (Ok wr G):=HKF.o.step HGF.o
    have HWG:Hi (G.heap[gw]?=some (.cells #[.bool sm,.slice uo un uc,.slice so sn sc] 50 (0,0))):=by rw [hG,hgw];exact za3 _ _
    have HYG:Hi (G.heap[gy]?=_):=Ok.row' HGF.o HFY.o
    have HTG:=hid (HTS.o.below HGF.o)
    have HGW:Hi (wr.heap.size<=gw/\gy<gw):=by unfold Hi;rw [hgw];exact ⟨HKF.o.le,za2 HFY.o⟩
    clear hG hgw HTS HFY HGF HKF
    obtain ⟨q0,q1,q2,q3,q4,q5,q6,q7,q8,lgq⟩:=row9 (Ok.row' (HW3.o.ok.step HGK.o) HGX.o)
    have ho:=za1 HEX.o (HW3.o.ok.step HGK.o)
    have r1:=ho.cells (g:=eb) rfl (l2*6+1) _ (zp6 HED.o 1 _ rfl)
    rw [zb7,Nat.zero_add] at r1
    have hle:=(ho.lt eb rfl).2
    have HEB:Hi (0<=ed.to'/\ed.to'<(N:Int)/\N<=1000):=by have h1:=HFF.o.edge ed (List.mem_of_getElem? HED.o);exact ⟨h1.1,h1.2,HFF.o.small.2.2.2.2⟩
    obtain ⟨mt,hmt⟩:=qq (decide (ed.to'∈ml))
    have hmlk:(Instr.lookup 45 (.map (some gm)) (.int .i64 ed.to') false).run Tryz.prog G=.ok (.bool mt) G:=by rw [hmt];exact (HW3.o.m.ok HGK.o).look Tryz.underlying45 (by have:=HEB.o;omega) (by have:=HEB.o;omega)
    have HMT:Hi (mt=p.mgd ed.to'):=by rw [hmt];exact HFF.o.mgd ed.to'
    clear ho hmt
    go_upto_if 243 with (fail)
    as_aux_lemma =>
    go_cut [] from 155 to 273 (fun wx=>∃ hw lw,Hi (Ok wr wx/\wx.heap[gy]?=some (.cells #[.int .i64 ed.to',.bool ym,.slice yo yn yc,.slice zo zn zc] 52 (0,0))/\wx.heap[gw]?=some (.cells #[.bool ym,hw,lw] 50 (0,0))/\TokIs wx hw lw (p.tok ed.to' st)))
    case first =>
     cases mt
     ·go_wp2_with fail
      go_meet
      case rel =>
       have e1:p.tok ed.to' st=st:=by unfold Pl.tok;rw [if_neg (by rw [<-HMT.o];decide)]
       have e2:ym=sm:=by rw [HYM.o,HSM.o,e1]
       exact ⟨_,_,HGK.o,HYG.o,by rw [e2];exact HWG.o,by rw [e1];exact HTG.o⟩
     go_wp2_with (first | (refine za8 rfl 50 _ _ rfl gw 50 _ #[.bool true,.slice none 0 0,.slice none 0 0] (by rfl) (by rfl) HWG.o infTk rfl (by simp [Value.oneCell']) ?_) | fail)
     go_meet
     case rel =>
      have e1:p.tok ed.to' st=tokM:=by unfold Pl.tok;rw [if_pos HMT.o.symm]
      have e2:ym=true:=by rw [HYM.o,e1];rfl
      exact ⟨_,_,zd0 HGK.o HGW.o.1 _,(setRow_other _ _ _ _ (by have:=HGW.o;omega)).trans HYG.o,by rw [e2];exact setRow_heap _ _ _ _ _ _ HWG.o,by rw [e1];exact ⟨⟨rfl,fun u hu=>(by cases hu),none,0,rfl,.inl rfl⟩,⟨rfl,fun u hu=>(by cases hu),none,0,rfl,.inl rfl⟩,fun ao n c e=>by injection e with _ e1 e2;omega⟩⟩
    obtain ⟨hw,lw,HC⟩:=hcut
    obtain ⟨wo,wn,wq,hw1⟩:∃ o n c,hw=.slice o n c:=by obtain ⟨_,_,o,c,e,_⟩:=HC.o.2.2.2.hist;exact ⟨_,_,_,e⟩
    obtain ⟨xo,xn,xq,hw2⟩:∃ o n c,lw=.slice o n c:=by obtain ⟨_,_,o,c,e,_⟩:=HC.o.2.2.2.loops;exact ⟨_,_,_,e⟩
    subst hw1 hw2
    have HST2:Hi (∀ Y,Ok wc Y->Calls Tryz.prog 10 #[.agg #[.bool ym,.slice yo yn yc,.slice zo zn zc],.agg #[.bool ym,.slice wo wn wq,.slice xo xn xq]] Y fun e w'=>e=.returned (.bool true)/\Ok Y w'):=fun Y hY=>by
     have hb:=HFF.o.tkb _ (List.mem_of_getElem? HJ.o)
     rw [HYM.o]
     exact zH2 _ _ _ _ _ Y (HTI2.o.below (HW3.o.ok.step (HC.o.1.step hY))) (HC.o.2.2.2.below hY) ⟨hb.hl,hb.ll⟩
    have HC39:Hi (∀ Y,Ok wc Y->(Y.cell? ⟨gG,8,none⟩=some (.slice (some ⟨eb,0,none⟩) em ec)/\gG<Y.heap.size)/\(Y.cell? ⟨eb,l2*6+1,none⟩=some (.int .i64 ed.to')/\eb<Y.heap.size)/\(Y.cell? ⟨gy,0,none⟩=some (.int .i64 ed.to')/\Y.cell? ⟨gy,1,none⟩=some (.bool ym)/\Y.cell? ⟨gy,2,none⟩=some (.slice yo yn yc)/\Y.cell? ⟨gy,3,none⟩=some (.slice zo zn zc)/\gy<Y.heap.size)/\(Y.cell? ⟨gw,0,none⟩=some (.bool ym)/\Y.cell? ⟨gw,1,none⟩=some (.slice wo wn wq)/\Y.cell? ⟨gw,2,none⟩=some (.slice xo xn xq)/\gw<Y.heap.size)):=fun Y hY=>by
     have hX:=HW3.o.ok.step (HC.o.1.step hY)
     obtain ⟨_,_,_,_,_,_,_,_,a8,a9⟩:=row9 (Ok.row' hX HGX.o)
     have ho:=za1 HEX.o hX
     have r1:=ho.cells (g:=eb) rfl (l2*6+1) _ (zp6 HED.o 1 _ rfl)
     rw [zb7,Nat.zero_add] at r1
     have hy:=Ok.row' hY HC.o.2.1
     have hw:=Ok.row' hY HC.o.2.2.1
     obtain ⟨b0,b1,b2,b3,_⟩:=za6 hy
     obtain ⟨d0,d1,d2,_⟩:=za9 hw
     exact ⟨⟨a8,a9⟩,⟨r1,(ho.lt eb rfl).2⟩,⟨b0,b1,b2,b3,za2 hy⟩,⟨d0,d1,d2,za2 hw⟩⟩
    have hbn:(ed.to' != ed.to')=false:=by simp
    clear q0 q1 q2 q3 q4 q5 q6 q7 q8 lgq r1 hle hmlk
    as_aux_lemma =>
    go_upto_region 39 with (fail)
    refine wp_region_held_drew (S:=fun w'=>Ok wc w') (by kernel_rfl) (Below.drew (Ok.refl _)) (fun S0=>?_)
    obtain ⟨D,hD⟩:=qq (wc.drew)
    rw [<-hD] at S0 ⊢
    clear hD
    refine tH 0 (.int .i64 0) ?_ S0 ?_
    ·intro w' s0;clear s0;go_simp;try with_reducible rfl
    simp only [pu]
    refine tH 1 (.bool false) ?_ S0 ?_
    ·intro w' s0;clear s0;go_simp;try with_reducible rfl
    simp only [pu]
    refine tH 2 (.bool false) ?_ S0 ?_
    ·intro w' s0;clear s0;go_simp;try with_reducible rfl
    simp only [pu]
    refine tH 3 (.pointer (some ⟨gy,0,none⟩)) ?_ S0 ?_
    ·intro w' s0;clear s0;go_simp;try with_reducible rfl
    simp only [pu]
    refine tH 4 (.int .i64 ed.to') ?_ S0 ?_
    ·intro w' s0;obtain ⟨⟨z0,z1⟩,⟨z2,z3⟩,⟨z4,z5,z6,z7,z8⟩,⟨z9,z10,z11,z12⟩⟩:=HC39.o w' s0;clear s0;go_simp;try with_reducible rfl
    simp only [pu]
    refine tH 5 (.pointer (some ⟨gG,8,none⟩)) ?_ S0 ?_
    ·intro w' s0;clear s0;go_simp;try with_reducible rfl
    simp only [pu]
    refine tH 6 (.slice (some ⟨eb,0,none⟩) em ec) ?_ S0 ?_
    ·intro w' s0;obtain ⟨⟨z0,z1⟩,⟨z2,z3⟩,⟨z4,z5,z6,z7,z8⟩,⟨z9,z10,z11,z12⟩⟩:=HC39.o w' s0;clear s0;go_simp;try with_reducible rfl
    simp only [pu]
    refine tH 7 (.int .i64 (l2:Nat)) ?_ S0 ?_
    ·intro w' s0;clear s0;go_simp;try with_reducible rfl
    simp only [pu]
    refine tH 8 (.pointer (some ⟨eb,l2*6,none⟩)) ?_ S0 ?_
    ·intro w' s0;have u7:(0:Int)<=(l2:Int):=(by omega);have u8:¬((em:Int)<=(l2:Int)):=(by omega);clear s0;go_simp;try with_reducible rfl
    simp only [pu]
    refine tH 9 (.pointer (some ⟨eb,l2*6+1,none⟩)) ?_ S0 ?_
    ·intro w' s0;clear s0;go_simp;try with_reducible rfl
    simp only [pu]
    refine tH 10 (.int .i64 ed.to') ?_ S0 ?_
    ·intro w' s0;obtain ⟨⟨z0,z1⟩,⟨z2,z3⟩,⟨z4,z5,z6,z7,z8⟩,⟨z9,z10,z11,z12⟩⟩:=HC39.o w' s0;clear s0;go_simp;try with_reducible rfl
    simp only [pu]
    refine tH 11 (.bool false) ?_ S0 ?_
    ·intro w' s0;clear s0;go_simp;try with_reducible rfl
    simp only [pu]
    refine tH 12 (.bool false) ?_ S0 ?_
    ·intro w' s0;clear s0;go_simp;try with_reducible rfl
    simp only [pu]
    refine tH 13 (.bool false) ?_ S0 ?_
    ·intro w' s0;clear s0;go_simp;try with_reducible rfl
    simp only [pu]
    refine tH 14 (.pointer (some ⟨gy,1,none⟩)) ?_ S0 ?_
    ·intro w' s0;clear s0;go_simp;try with_reducible rfl
    simp only [pu]
    refine tH 15 (.agg #[.bool ym,.slice yo yn yc,.slice zo zn zc]) ?_ S0 ?_
    ·intro w' s0;obtain ⟨⟨z0,z1⟩,⟨z2,z3⟩,⟨z4,z5,z6,z7,z8⟩,⟨z9,z10,z11,z12⟩⟩:=HC39.o w' s0;clear s0;go_simp;try with_reducible rfl
    simp only [pu]
    refine tH 16 (.agg #[.bool ym,.slice wo wn wq,.slice xo xn xq]) ?_ S0 ?_
    ·intro w' s0;obtain ⟨⟨z0,z1⟩,⟨z2,z3⟩,⟨z4,z5,z6,z7,z8⟩,⟨z9,z10,z11,z12⟩⟩:=HC39.o w' s0;clear s0;go_simp;try with_reducible rfl
    simp only [pu]
    refine wpAnyH_ready (rs:=[17]) (by kernel_rfl) (by simp) ?_
    refine AllReadyH.cons rfl (fun K hK=>?_) AllReadyH.nil
    go_simp
    refine (HST2.o D S0).mono ?_
    rintro e D2 ⟨rfl,hk2⟩
    refine hK.out _ _ (S0.step hk2) (fun S1=>?_)
    clear hK K hk2 S0 HST2 HC39
    try simp only [pu]
    refine tH 18 (.bool false) ?_ S1 ?_
    ·intro w' s0;clear s0;go_simp;try with_reducible rfl
    simp only [pu]
    refine tH 19 (.bool false) ?_ S1 ?_
    ·intro w' s0;clear s0;go_simp;try with_reducible rfl
    simp only [pu]
    refine wpAnyH_done (by kernel_rfl) ?_ _
    as_aux_lemma =>
    have HKD:Hi (Ok wr D2):=HC.o.1.step S1
    have hX:=HW3.o.ok.step HKD.o
    obtain ⟨t0,t1,t2,_⟩:=za9 (Ok.row' hX HTX.o)
    have lt:=za2 (Ok.row' hX HTX.o)
    have ho:=za1 HLX.o hX
    have m1:=ho.cells (g:=lb) rfl _ _ (zA3 HL.o).2.1
    rw [zb7,Nat.zero_add] at m1
    have hll:=(ho.lt lb rfl).2
    have hjb:I64 (j:Int):=⟨by omega,by have:=HLN.o;have:=HFF.o.small;omega⟩
    obtain ⟨D3,hput,hs3,hg3⟩:=(HW3.o.step HKD.o).putL Tryz.underlying45 (x:=(j:Int)) hjb (by have:=HLN.o;have:=HFF.o.small;unfold maxLen;omega)
    have HS3:Hi (HS X gm gn gs gl (fun n=>decide (n∈ml)) (fun n=>(many (vs.take (l0+1)) n:Int)) (((vs.take (l0+1)).map (atV Lib.itoa)).reverse) (ledB ls (at'+1)) mn (l0+1) (l0+1) (at'+1+1) D3):=by rw [yh4 HL.o];exact hs3
    have HX5:Hi (D3.heap[gx]?=some (.cells #[.int .i64 ed.from',.bool tm,.slice ho1 a1 hc1,.slice lo1 a2 lc1] 52 (0,0))):=(hg3.block gx (za2 (Ok.row' HKD.o HX3.o)) (by have h1:=HGX0.o;have h2:=HW.o.ord;simp;omega)).trans (Ok.row' HKD.o HX3.o)
    have HON:Hi (B l0+(outP es ed.from' (l2+1)).length=at'+1):=by unfold Hi;rw [zl7 HED.o,if_pos rfl,List.length_append,HAT.o];rfl
    have haw:IntKind.i64.wrap ((at':Int)+1)=((at'+1:Nat):Int):=zb3 (by have:=HLN.o;have:=HFF.o.small;omega)
    clear hX ho hs3 hg3 hjb S1
    go_wp2_with fail
    go_roundw
    case rel=>exact ⟨l2+1,rfl,hkl,by rw [HON.o];exact congrArg (Value.int .i64) (by omega),by rw [HON.o];exact HS3,HX5⟩
    case measure=>simp only [intOf,Int.toNat_natCast];omega
   have hfb:(ed.from'==node)=false:=by rw [beq_eq_false_iff_ne];exact hfr
   have HON:Hi (outP es node (k+1)=outP es node k):=by unfold Hi;rw [zl7 HED.o,if_neg hfr,List.append_nil]
   clear hfr
   go_wp2_with fail
   go_quiet (fail)
   go_wp2_with fail
   go_roundw
   case rel=>exact ⟨k+1,rfl,hkl,by rw [HON.o],by rw [HON.o];exact HW3.o.step (below_drewN (Ok.refl _) _),HX3⟩
   case measure=>simp only [intOf,Int.toNat_natCast];omega
  have hkl':¬(k:Int)<(em:Int):=by omega
  have HBN:Hi (B v+(outP es node k).length=B (v+1)):=by unfold Hi;rw [HFF.o.bn v _ HND.o,show k=es.length by have:=HEM.o;omega]
  rw [HBN.o] at HW3 ⊢
  go_wp2_with fail
  go_roundw
  case rel=>exact ⟨v+1,rfl,hvl,rfl,HW3⟩
  case measure=>simp only [intOf,Int.toNat_natCast];omega
 have hvl':¬(v:Int)<(vn:Int):=by omega
 have hve:v=vn:=by omega
 have HBE:Hi (B v=ln):=by have h1:=HFF.o.be;have h2:=HLN.o;unfold Hi;rw [hve,h2.2.1,h1,h2.1]
 have hb1:((B v:Int)==(ln:Int))=true:=by rw [HBE.o];simp
 have hb2:(0:Int)<(vn:Int):=by have:=HFF.o.small;have:=HLN.o;omega
 clear hve
 go_wp2_with fail
 refine (HTK.o wr (HXX.o.step HW.o.ok)).mono ?_
 rintro e w9 ⟨rfl,hk9⟩
 have HK9:Hi (Ok w w9):=(HWX.o.step HW.o.ok).step hk9
 clear hk9
 go_wp2_with fail
 go_ret
 exact ⟨rfl,HK9.o⟩
end Go.Proofs.YtbneneijdgcccaaGreatDoor
