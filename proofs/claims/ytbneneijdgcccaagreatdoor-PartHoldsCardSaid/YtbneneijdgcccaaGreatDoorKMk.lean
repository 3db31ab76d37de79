import Derived.Test.YtbneneijdgcccaaGreatDoorCards
import Derived.Test.YtbneneijdgcccaaGreatDoorTie
import Derived.LaidMore
import Derived.SevenTiedAt
import Derived.Stop.LaidErr
import Derived.Lib.SmallJoins
import Derived.Deep.DeepWitnessRowRef
import Derived.Test.YtbneneijdgcccaaGreatDoorKMf
import Derived.Test.YtbneneijdgcccaaGreatDoorKTi
set_option maxHeartbeats 8000000
set_option linter.all false
set_option maxRecDepth 100000
namespace Go.Proofs.YtbneneijdgcccaaGreatDoor
section
open Go.RowKit
def OffG (g:Nat) (X Y:World):Prop:=X.heap.size<=Y.heap.size/\∀ b,b≠g->b<X.heap.size->Y.heap[b]?=X.heap[b]?
theorem OffG.of {g:Nat} {X Y:World} (h:Ok X Y):OffG g X Y:=⟨h.le,fun b _ hb=>Below.block h b hb⟩
theorem OffG.row {g b:Nat} {X Y:World} {o:Obj} (h:OffG g X Y) (hb:b≠g) (e:X.heap[b]?=some o):Y.heap[b]?=some o:=(h.2 b hb (za2 e)).trans e
theorem yB0 (v:Nat->Value) (c:Nat->Int) (tz:Option Addr) (tn tc:Nat) (NN x:Nat) (es:List Ed) (e:Ed) (k:Nat) (t:Tok) (hv lv:Value) (w:World)
  (h:∀ Y,Ok w Y->Calls Tryz.prog 12 #[.agg #[v 0,v 1,v 2,v 3,v 4,v 5],.agg #[.int .i64 (c 0),.int .i64 (c 1),.int .i64 (c 2),.int .i64 (c 3),.int .i64 (c 4),.int .i64 (c 5),.slice tz tn tc,.int .i64 (c 7),.int .i64 (c 8)]] Y fun e w'=>LwIs Y (some (NN,x,es)) e w')
  (hv6:∀ i,i<6->∃ ao n c,v i=.slice ao n c) (hU:c 1<=1000) (hk:es[k]?=some e) (hl:es.length<=100000) (ht:TokIs w hv lv t) (hb:TkB 100000 t) :
  Calls Tryz.prog 9 #[.agg #[v 0,v 1,v 2,v 3,v 4,v 5],.agg #[.int .i64 (c 0),.int .i64 (c 1),.int .i64 (c 2),.int .i64 (c 3),.int .i64 (c 4),.int .i64 (c 5),.slice tz tn tc,.int .i64 (c 7),.int .i64 (c 8)],.agg #[.bool t.1,hv,lv],.int .i64 (k:Nat)] w fun ex w'=>∃ hv' lv',ex=.returned (.tuple #[.agg #[.bool (stepT (c 0) (c 1) e k t).1,hv',lv'],.int .i64 0])/\TokOwn w' w.heap.size hv' lv' (stepT (c 0) (c 1) e k t)/\Ok w w':=by
 have HL:=hid h
 have HT:Hi (TokIs w hv lv t/\TkB 100000 t):=⟨ht,hb⟩
 have HE:Hi (es[k]?=some e/\c 1<=1000/\es.length<=100000):=⟨hk,hU,hl⟩
 obtain ⟨_,_,ho,hc,e1,_⟩:=ht.hist
 obtain ⟨_,_,lo,lc,e2,_⟩:=ht.loops
 obtain ⟨g0,n0,k0,g1,n1,k1,g2,n2,k2,g3,n3,k3,g4,n4,k4,g5,n5,k5,z0,z1,z2,z3,z4,z5⟩:=slices6 hv6
 obtain ⟨m,hs,ls⟩:=t
 obtain ⟨q,hq⟩:=qq (hs.length)
 obtain ⟨n,hn⟩:=qq (ls.length)
 simp only [<-hq,<-hn] at e1 e2
 subst e1 e2
 rw [z0,z1,z2,z3,z4,z5] at HL ⊢
 clear h hk hU hl ht hb hv6 z0 z1 z2 z3 z4 z5 hq hn
 go_enter Tryz.func9,Tryz.ntmps9
 go_wp2_with fail
 obtain ⟨W,hW⟩:=qq ((((w.alloc (Obj.cells #[.slice g0 n0 k0,.slice g1 n1 k1,.slice g2 n2 k2,.slice g3 n3 k3,.slice g4 n4 k4,.slice g5 n5 k5] 30)).alloc (Obj.cells #[.int .i64 (c 0),.int .i64 (c 1),.int .i64 (c 2),.int .i64 (c 3),.int .i64 (c 4),.int .i64 (c 5),.slice tz tn tc,.int .i64 (c 7),.int .i64 (c 8)] 24)).alloc (Obj.cells #[.bool m,.slice ho q hc,.slice lo n lc] 50)).alloc (Obj.cells #[.bool false,.slice none 0 0,.slice none 0 0] 50))
 obtain ⟨gC,hgC⟩:=qq (w.heap.size+1)
 obtain ⟨gT,hgT⟩:=qq (w.heap.size+1+1)
 obtain ⟨gR,hgR⟩:=qq (w.heap.size+1+1+1)
 rw [<-hW,<-hgR,<-hgT,<-hgC]
 have HK0:Hi (Ok w W):=by rw [hW];exact ((((Ok.refl w).alloc _).alloc _).alloc _).alloc _
 have HRR0:Hi (W.heap[gR]?=some (.cells #[.bool false,.slice none 0 0,.slice none 0 0] 50 (0,0))):=by rw [hW,hgR];exact jj
 have HRT0:Hi (W.heap[gT]?=some (.cells #[.bool m,.slice ho q hc,.slice lo n lc] 50 (0,0))):=by rw [hW,hgT];exact jj
 have HRC0:Hi (W.heap[gC]?=some (.cells #[.int .i64 (c 0),.int .i64 (c 1),.int .i64 (c 2),.int .i64 (c 3),.int .i64 (c 4),.int .i64 (c 5),.slice tz tn tc,.int .i64 (c 7),.int .i64 (c 8)] 24 (0,0))):=by rw [hW,hgC];exact jj
 have HG:Hi (w.heap.size<=gR/\w.heap.size<=gC/\gC<gT/\gT<gR):=by unfold Hi;omega
 clear hW hgR hgC hgT
 refine (HL.o W HK0.o).mono ?_
 rintro ex w1 hv
 unfold LwIs at hv
 obtain ⟨⟨u,eo,ec,rfl,hu,hes⟩,hk1⟩:=hv
 have HES:Hi (w1.ownsRow 0 56 6 (.slice eo es.length ec) es.length (edL es)):=hes
 have HK1:Hi (Ok w w1):=HK0.o.step hk1
 have HRR1:Hi (w1.heap[gR]?=_):=Ok.row' hk1 HRR0.o
 have HRT1:Hi (w1.heap[gT]?=_):=Ok.row' hk1 HRT0.o
 have HRC1:Hi (w1.heap[gC]?=_):=Ok.row' hk1 HRC0.o
 have HON:Hi ((#[u 0,u 1,u 2,u 3,u 4,u 5,.int .i64 (NN:Nat),.int .i64 (x:Nat),.slice eo es.length ec]:Array Value).all (·.oneCell')=true):=by
  obtain ⟨g0,n0,k0,g1,n1,k1,g2,n2,k2,g3,n3,k3,g4,n4,k4,g5,n5,k5,e0,e1,e2,e3,e4,e5⟩:=slices6 hu
  unfold Hi
  rw [e0,e1,e2,e3,e4,e5]
  simp [Value.oneCell']
 clear hk1 HL hu hes HRR0 HRT0 HRC0
 obtain ⟨en,hen⟩:=qq (es.length)
 have hkn:k<en:=by rw [hen];exact (List.getElem?_eq_some_iff.1 HE.o.1).1
 have hkn':(k:Int)<(en:Int):=za5 hkn
 have hkg:¬(en:Int)<=(k:Int):=by omega
 rw [<-hen] at HES HON ⊢
 clear hen
 go_wp2_with (first | (refine za8 rfl 42 _ _ rfl w1.heap.size 42 #[.slice none 0 0,.slice none 0 0,.slice none 0 0,.slice none 0 0,.slice none 0 0,.slice none 0 0,.int .i64 0,.int .i64 0,.slice none 0 0] #[u 0,u 1,u 2,u 3,u 4,u 5,.int .i64 (NN:Nat),.int .i64 (x:Nat),.slice eo en ec] (by rfl) (by rfl) (za3 _ _) infGr rfl HON.o ?_;obtain ⟨X,gL,hX,HKX,HKL⟩:=zl8 w1 #[u 0,u 1,u 2,u 3,u 4,u 5,.int .i64 (NN:Nat),.int .i64 (x:Nat),.slice eo en ec];rw [hX.1,hX.2];clear hX;obtain ⟨q0,q1,q2,q3,q4,q5,q6,q7,q8,lgq⟩:=row9 HKL.o.1) | fail)
 obtain ⟨be,hbe⟩:∃ b,eo=some ⟨b,0,none⟩:=by
  obtain ⟨g,cp,e1,_⟩:=HES.o.form (by omega)
  injection e1 with e1 _ _
  exact ⟨g,e1⟩
 subst hbe
 have HKX1:Hi (Ok w X):=HK1.o.step HKX.o
 have HESX:Hi (X.ownsRow 0 56 6 (.slice (some ⟨be,0,none⟩) en ec) en (edL es)):=za1 HES.o HKX.o
 have HCX:Hi (X.heap[gC]?=_):=Ok.row' HKX.o HRC1.o
 have HTX:Hi (X.heap[gT]?=_):=Ok.row' HKX.o HRT1.o
 have HRX:Hi (X.heap[gR]?=_):=Ok.row' HKX.o HRR1.o
 have HBR:Hi (be≠gR):=by
  intro e9
  obtain ⟨cg,fg,hgg⟩:=zf9 HESX.o be rfl
  rw [e9,HRX.o] at hgg
  injection hgg with hgg
  injection hgg with _ hgg
  exact absurd hgg (by decide)
 have HLR:Hi (gL≠gR):=by
  intro e9
  have h1:=HKL.o.1
  rw [e9,HRX.o] at h1
  injection h1 with h1
  injection h1 with _ h1
  exact absurd h1 (by decide)
 have HSC:Hi (∀ Y,OffG gR X Y->Y.cell? ⟨gL,8,none⟩=some (.slice (some ⟨be,0,none⟩) en ec)/\gL<Y.heap.size/\Y.cell? ⟨be,k*6,none⟩=some (.int .i64 e.from')/\Y.cell? ⟨be,k*6+1,none⟩=some (.int .i64 e.to')/\Y.cell? ⟨be,k*6+2,none⟩=some (.int .i64 e.op)/\Y.cell? ⟨be,k*6+3,none⟩=some (.int .i64 e.place)/\Y.cell? ⟨be,k*6+4,none⟩=some (.bool e.sense)/\Y.cell? ⟨be,k*6+5,none⟩=some (.bool e.loop)/\be<Y.heap.size):=fun Y hY=>by
  have hL:=hY.row HLR.o HKL.o.1
  have hlt:=(HESX.o.lt be rfl).2
  have hE:∀ (j:Nat) (u:Value),(edV e)[j]?=some u->Y.cell? ⟨be,k*6+j,none⟩=some u:=fun j u hj=>by
   have h1:=HESX.o.cells (g:=be) rfl (k*6+j) u (zp6 HE.o.1 j u hj)
   rw [zb7,Nat.zero_add] at h1
   rw [<-h1]
   unfold World.cell?
   rw [hY.2 be HBR.o hlt]
  exact ⟨(cell_of_row _ _ 8 _ _ _ hL).trans rfl,za2 hL,hE 0 _ rfl,hE 1 _ rfl,hE 2 _ rfl,hE 3 _ rfl,hE 4 _ rfl,hE 5 _ rfl,Nat.lt_of_lt_of_le hlt hY.1⟩
 have S0:OffG gR X X.drew:=OffG.of (Below.drew (Ok.refl X))
 clear q0 q1 q2 q3 q4 q5 q6 q7 q8 lgq
 refine zd5 (fun Y=>OffG gR X Y) 11 (by kernel_rfl) ?_
 refine tL 0 (.pointer (some ⟨gL,8,none⟩)) S0 ?_ ?_
 ·intro w' s0;clear s0;go_simp;try with_reducible rfl
 simp only [pu]
 refine tL 1 (.slice (some ⟨be,0,none⟩) en ec) S0 ?_ ?_
 ·intro w' s0;obtain ⟨z0,z1,z2,z3,z4,z5,z6,z7,z8⟩:=HSC.o w' s0;clear s0;go_simp;try with_reducible rfl
 simp only [pu]
 refine tL 2 (.int .i64 (k:Nat)) S0 ?_ ?_
 ·intro w' s0;clear s0;go_simp;try with_reducible rfl
 simp only [pu]
 refine tL 3 (.pointer (some ⟨be,k*6,none⟩)) S0 ?_ ?_
 ·intro w' s0;have y7:(0:Int)<=(k:Int):=(by omega);have y8:¬((en:Int)<=(k:Int)):=(by omega);clear s0;go_simp;try with_reducible rfl
 simp only [pu]
 refine tL 4 (.agg #[.int .i64 e.from',.int .i64 e.to',.int .i64 e.op,.int .i64 e.place,.bool e.sense,.bool e.loop]) S0 ?_ ?_
 ·intro w' s0;obtain ⟨z0,z1,z2,z3,z4,z5,z6,z7,z8⟩:=HSC.o w' s0;clear s0;go_simp;try with_reducible rfl
 simp only [pu]
 refine tL 5 (.int .i64 (k:Nat)) S0 ?_ ?_
 ·intro w' s0;clear s0;go_simp;try with_reducible rfl
 simp only [pu]
 refine tL 6 (.agg #[.int .i64 (c 0),.int .i64 (c 1),.int .i64 (c 2),.int .i64 (c 3),.int .i64 (c 4),.int .i64 (c 5),.slice tz tn tc,.int .i64 (c 7),.int .i64 (c 8)]) S0 ?_ ?_
 ·intro w' s0;obtain ⟨z0,z1,z2,z3,z4,z5,z6,z7,z8,z9⟩:=row9 (s0.row (by have:=HG.o;omega) HCX.o);clear s0;go_simp;try with_reducible rfl
 simp only [pu]
 refine tL 8 (.agg #[.bool m,.slice ho q hc,.slice lo n lc]) S0 ?_ ?_
 ·intro w' s0;have z9:=s0.row (by have:=HG.o;omega) HTX.o;obtain ⟨z0,z1,z2,z3⟩:=za9 z9;have z8:=za2 z9;clear s0;go_simp;try with_reducible rfl
 simp only [pu]
 refine zb0 (i:=7) (by kernel_rfl) rfl (fun K hK=>?_)
 go_simp
 refine (zU2 e k (c 0) (c 1) (c 2) (c 3) (c 4) (c 5) (c 7) (c 8) (.slice tz tn tc) _ HE.o.2.1).mono ?_
 rintro ex D1 ⟨fv,rfl,hfv,hkd⟩
 have HKD:Hi (Ok X D1):=Ok.step (Below.drew (Ok.refl X)) hkd
 refine hK.out _ _ (fun _=>OffG.of HKD.o) ?_
 clear hK K S0 hkd
 have HFV:=hid hfv
 obtain ⟨fid,caps,rfl,hen,hcl⟩:=hfv
 have hcl1:=hcl D1
 try simp only [pu]
 refine zb0 (i:=9) (by kernel_rfl) rfl (fun K hK=>?_)
 go_simp
 refine (hcl1 _ _ (m,hs,ls) (Ok.refl D1) (HT.o.1.below (HKX1.o.step HKD.o)) HT.o.2).mono ?_
 rintro ex D2 ⟨hv',lv',rfl,hto,hk2⟩
 have HK2:Hi (Ok X D2):=HKD.o.step hk2
 have HTO:Hi (TokOwn D2 X.heap.size hv' lv' (stepT (c 0) (c 1) e k (m,hs,ls))):=hto.base HKD.o.le
 refine hK.out _ _ (fun _=>OffG.of HK2.o) ?_
 clear hK K hcl1 hcl hen hk2 HFV
 obtain ⟨sm,hsm⟩:=qq ((stepT (c 0) (c 1) e k (m,hs,ls)).1)
 have HO:Hi ((#[.bool sm,hv',lv']:Array Value).all (·.oneCell')=true):=by
  obtain ⟨_,_,rfl⟩:=za0 hto.hist
  obtain ⟨_,_,rfl⟩:=za0 hto.loops
  simp [Hi,Value.oneCell']
 have HR2:Hi (D2.heap[gR]?=_):=Ok.row' HK2.o HRX.o
 rw [<-hsm]
 have HSM:=hid hsm
 clear hto hsm
 try simp only [pu]
 refine zb0 (i:=10) (by kernel_rfl) rfl (fun K hK=>?_)
 refine zg9 rfl 50 _ _ rfl gR 50 _ #[.bool sm,hv',lv'] (by rfl) (by rfl) HR2.o infTk rfl HO.o rfl ?_
 refine hK.out _ _ (fun _=>⟨by rw [size_setRow];exact HK2.o.le,fun b hb hl=>(setRow_other _ _ _ _ hb).trans (Below.block HK2.o b hl)⟩) ?_
 clear hK K
 refine zb0 (i:=11) (by kernel_rfl) rfl (fun K hK=>?_)
 go_simp
 refine hK.out _ _ (fun h=>absurd rfl h) ?_
 clear hK K
 refine zd4 (by kernel_rfl) ?_ _
 go_wp2_with fail
 refine bodyPost_ret (zc0 rfl _ _ gR 50 #[.bool sm,hv',lv'] (0,0) _ rfl (setRow_heap _ _ _ _ _ _ HR2.o) Tryz.underlying50 rfl infTk) rfl ?_
 have hle:=HKX1.o.le
 have hgx:gR<X.heap.size:=za2 HRX.o
 have hs2:∀ b,X.heap.size<=b->(D2.setRow gR #[.bool sm,hv',lv']).heap[b]?=D2.heap[b]?:=fun b hb=>setRow_other _ _ _ _ (by omega)
 exact ⟨hv',lv',by rw [<-HSM.o];rfl,⟨za7 (zb4 HTO.o.hist fun b hb=>hs2 b (HTO.o.hist.lt b hb).1) hle,za7 (zb4 HTO.o.loops fun b hb=>hs2 b (HTO.o.loops.lt b hb).1) hle⟩,zd0 (HKX1.o.step HK2.o) HG.o.1 _⟩
end
section
open Go.RowKit
def LPr (w:World) (l:List UInt8) (e:Ending) (w':World):Prop :=
 (∃ (ns:List Nd) (u:Nat->Value),TxtP l ns/\e=.returned (.agg #[u 0,u 1,u 2,u 3,u 4,u 5])/\PrIs w' w.heap.size u ns (programR ns).2.2/\∀ n∈ns,n.Fit)
 \/ (TxtN l/\e=.returned (.agg #[.slice none 0 0,.slice none 0 0,.slice none 0 0,.slice none 0 0,.slice none 0 0,.slice none 0 0]))
theorem zx9 (s:ByteArray) (w:World) :
  Calls Tryz.prog 4 #[.string s,.int .i64 0] w fun e w'=>LPr w s.toList e w'/\Ok w w':=by
 go_enter Tryz.func4,Tryz.ntmps4
 go_wp2_with fail
 refine (yt7 s _).mono ?_
 rintro e w1 ⟨ht,hok⟩
 have HX:Hi (Six w1 w.heap.size (.slice none 0 0) (.slice none 0 0) (.slice none 0 0) (.slice none 0 0) (.slice none 0 0) (.slice none 0 0)):=(Six.new w _ _ _ _ _ _).below hok
 have HK:Hi (Ok w w1):=((Ok.refl w).alloc _).step hok
 obtain ⟨z1,c0,c1,c2,c3,c4,c5⟩:=HX.o.pc
 have wf:=HX.o.warm
 have hT:(∃ (ns:List Nd) (u:Nat->Value),TxtP s.toList ns/\e=.returned (.tuple #[.agg #[u 0,u 1,u 2,u 3,u 4,u 5],.int .i64 0,.int .i64 0])/\PrIs w1 (w.heap.size+1) u ns (programR ns).2.2/\∀ n∈ns,n.Fit)\/(TxtN s.toList/\∃ er at0:Int,er≠0/\e=.returned (.tuple #[.agg #[.slice none 0 0,.slice none 0 0,.slice none 0 0,.slice none 0 0,.slice none 0 0,.slice none 0 0],.int .i64 er,.int .i64 at0])):=by
  unfold TextIs at ht
  cases hl:lexS s.toList with
  | inl p =>
   rw [hl] at ht
   obtain ⟨er,at0⟩:=p
   exact .inr ⟨.inl ⟨_,hl⟩,_,_,by have:=ht.1;omega,ht.2⟩
  | inr ts =>
   rw [hl] at ht
   obtain ⟨P,h1,h2,h3⟩:=ht
   subst h1
   rcases h3 with ⟨k1,k2,u,k3,k4,k5⟩ | ⟨k1,er,at0,k2,k3⟩
   ·exact .inl ⟨_,u,⟨P,hl,h2,k1,rfl,k2⟩,k3,by simpa using k4,k5⟩
   exact .inr ⟨.inr ⟨P,hl,h2,k1⟩,er,at0,k2,k3⟩
 clear ht hok
 rcases hT with ⟨ns,u,hP,rfl,hu,hf⟩ | ⟨hn,er,at0,he,rfl⟩
 ·have HP:Hi (TxtP s.toList ns/\PrIs w1 (w.heap.size+1) u ns (programR ns).2.2/\∀ n∈ns,n.Fit):=⟨hP,hu,hf⟩
  clear hP hu hf
  obtain ⟨o0,p0,e0⟩:=za0 (HP.o.2.1 0 (by decide))
  obtain ⟨o1,p1,e1⟩:=za0 (HP.o.2.1 1 (by decide))
  obtain ⟨o2,p2,e2⟩:=za0 (HP.o.2.1 2 (by decide))
  obtain ⟨o3,p3,e3⟩:=za0 (HP.o.2.1 3 (by decide))
  obtain ⟨o4,p4,e4⟩:=za0 (HP.o.2.1 4 (by decide))
  obtain ⟨o5,p5,e5⟩:=za0 (HP.o.2.1 5 (by decide))
  have HEE:Hi (u 0=_/\u 1=_/\u 2=_/\u 3=_/\u 4=_/\u 5=_):=⟨e0,e1,e2,e3,e4,e5⟩
  rw [e0,e1,e2,e3,e4,e5]
  clear e0 e1 e2 e3 e4 e5
  go_wp2_with fail
  try simp only [Exit.inBlock,Exit.then]
  refine bodyPost_ret (results_cell_row rfl _ _ w.heap.size 30 #[_,_,_,_,_,_] (0,0) _ rfl (heap_past _ _ _ (za2 (zc9 HX.o.heap _ _ _ _ _ _)) (zc9 HX.o.heap _ _ _ _ _ _)) Tryz.underlying30 rfl Tryz.info30) rfl ?_
  refine ⟨.inl ⟨ns,u,HP.o.1,?_,?_,HP.o.2.2⟩,(show Ok w _ from zc8 HK.o (Nat.le_refl _) _ _ _ _ _ _).alloc _⟩
  ·obtain ⟨e0,e1,e2,e3,e4,e5⟩:=HEE.o
   rw [e0,e1,e2,e3,e4,e5]
  intro k hk
  exact za7 (World.ownsRow.alloc (zI9 (HP.o.2.1 k hk) (by omega) _ _ _ _ _ _) _) (by omega)
 have HC:Hi (TxtN s.toList):=hn
 clear hn he
 go_wp2_with fail
 try simp only [Exit.inBlock,Exit.then]
 refine bodyPost_ret (results_cell_row rfl _ _ w.heap.size 30 #[_,_,_,_,_,_] (0,0) _ rfl (heap_past _ _ _ (za2 (zc9 HX.o.heap _ _ _ _ _ _)) (zc9 HX.o.heap _ _ _ _ _ _)) Tryz.underlying30 rfl Tryz.info30) rfl ?_
 exact ⟨.inr ⟨HC.o,rfl⟩,(show Ok w _ from zc8 HK.o (Nat.le_refl _) _ _ _ _ _ _).alloc _⟩
end
section
open Go.RowKit Go.Maps
theorem lk_ok {ns:List Nd} {l:Ls} {c:Nat->Int} {ts:List Int} (h:badP ns l c ts=0):LkB (spR ns c).2.2/\(spR ns c).2.1.length<=1806/\0<(spR ns c).2.1.length:=by
 obtain ⟨hg,hr⟩:=zm1 h
 have hc:=zp8 hr
 have hG:=gr_ok hg
 have hF:=ye8 h
 obtain ⟨R,hR⟩:=qq (spR ns c)
 rw [<-hR] at hF ⊢
 have hv:R.2.1.length<=1806:=by
  have h1:=hF.vi.len (N:=ptN ns) hG.wit
  have h2:(plOf (c 2).toNat (c 0) (c 1) (elF ns) R.1).cap=(c 2).toNat:=rfl
  rw [h2] at h1
  have h3:=Nat.mul_le_mul hG.pts (show (c 2).toNat<=6 by omega)
  omega
 have he:(plOf (c 2).toNat (c 0) (c 1) (elF ns) R.1).es=elF ns:=rfl
 refine ⟨⟨?_,fun x hx=>?_⟩,hv,?_⟩
 ·obtain ⟨LL,k1,k2,k3⟩:=hF.rows
  rw [k2]
  refine Nat.le_trans (zt5 (M:=600) LL fun row hrow=>?_) (by rw [k1];omega)
  obtain ⟨i,hi⟩:=List.mem_iff_getElem?.1 hrow
  obtain ⟨v,_,h2⟩:=k3 i row hi
  rw [h2.1]
  exact Nat.le_trans (zr0 _ _) (by rw [he];exact hG.els)
 ·obtain ⟨v,e,a1,a2,a3,a4⟩:=hF.link hx
  have b1:=(List.getElem?_eq_some_iff.1 a1).1
  have b2:=(List.getElem?_eq_some_iff.1 a2).1
  have b3:=(List.getElem?_eq_some_iff.1 a4).1
  rw [he] at b2
  have:=hG.els
  omega
 exact (List.getElem?_eq_some_iff.1 hF.first).1
theorem yB1 (v:Nat->Value) (c:Nat->Int) (ts:List Int) (tz:Option Addr) (tc:Nat) (ns:List Nd) (l:Ls) (pv:Value) (path:List Int) (w:World) (hE:PEnv w) (h:ProgIs w (v 0) (v 1) (v 2) (v 3) (v 4) (v 5) ns l) (hts:SL w 1 (.slice tz ts.length tc) ts.length (ilL ts)) (hp:SL w 1 pv path.length (ilL path)) (hpl:path.length<=100000) (hpw:∀ y∈path,(Lit.int .i64 y).wf=true) :
  Calls Tryz.prog 14 #[.agg #[v 0,v 1,v 2,v 3,v 4,v 5],.agg #[.int .i64 (c 0),.int .i64 (c 1),.int .i64 (c 2),.int .i64 (c 3),.int .i64 (c 4),.int .i64 (c 5),.slice tz ts.length tc,.int .i64 (c 7),.int .i64 (c 8)],pv] w fun e w'=>e=.returned (.tuple #[.int .i64 (flV (badP ns l c ts) (spR ns c).2.2 path).1,.int .i64 (flV (badP ns l c ts) (spR ns c).2.2 path).2])/\Ok w w':=by
 have hS:∀ Y,Ok w Y->Calls Tryz.prog 5 #[.agg #[v 0,v 1,v 2,v 3,v 4,v 5],.agg #[.int .i64 (c 0),.int .i64 (c 1),.int .i64 (c 2),.int .i64 (c 3),.int .i64 (c 4),.int .i64 (c 5),.slice tz ts.length tc,.int .i64 (c 7),.int .i64 (c 8)]] Y fun e w'=>SpG Y (badP ns l c ts) (ptN ns) (spR ns c) e w':=fun Y hY=>zu0 v c ts tz tc ns l Y (hE.ok hY) (h.below hY) (hts.below hY)
 by_cases hb:badP ns l c ts=0
 ·rw [hb] at hS ⊢
  exact ye6 v c tz ts.length tc pv path (ptN ns) (spR ns c) _ w (ye8 hb) (lk_ok hb).1 hp hpl hpw hS
 refine (zV3 v c tz ts.length tc pv (badP ns l c ts) (ptN ns) (spR ns c) w hb hS).mono ?_
 rintro e w' ⟨rfl,hk⟩
 refine ⟨?_,hk⟩
 unfold flV
 rw [if_neg hb]
def PgIs (w:World) (e:Ending) (w':World) (ns:List Nd) (l:Ls) (v:Nat->Value):Prop:=e=.returned (.agg #[v 0,v 1,v 2,v 3,v 4,v 5])/\(∀ i,i<6->∃ ao n c,v i=.slice ao n c)/\ProgIs w' (v 0) (v 1) (v 2) (v 3) (v 4) (v 5) ns l/\Ok w w'
theorem PgIs.of {w:World} {l:List UInt8} {e:Ending} {w':World} (h:LPr w l e w') (hk:Ok w w'):∃ ns m v,PgIs w e w' ns m v:=by
 rcases h with ⟨ns,u,hP,he,hu,hf⟩ | ⟨hn,he⟩
 ·exact ⟨ns,_,u,he,fun i hi=>by obtain ⟨o,c,e⟩:=za0 (hu i hi);exact ⟨_,_,_,e⟩,hu.prog fun n hn=>yj1 (hf n hn),hk⟩
 exact ⟨[],ls0,fun _=>.slice none 0 0,he,fun i hi=>⟨_,_,_,rfl⟩,⟨⟨fun n hn=>(by cases hn),none,0,rfl,Nat.zero_le _,by decide,.inl rfl⟩,⟨⟨by decide,none,0,rfl,.inl rfl⟩,⟨by decide,none,0,rfl,.inl rfl⟩,⟨by decide,none,0,rfl,.inl rfl⟩,⟨by decide,none,0,rfl,.inl rfl⟩,⟨by decide,none,0,rfl,.inl rfl⟩⟩⟩,hk⟩
end
section
open Go.RowKit Go.Maps
def txt20:List UInt8:=[118,97,114,32,120,59,32,105,110,112,117,116,32,120,59,32,105,102,32,120,32,60,32,48,32,123,32,120,32,58,61,32,49,59,32,125,32,101,108,115,101,32,123,32,115,107,105,112,59,32,125,32,119,104,105,108,101,32,120,32,60,32,57,32,123,32,120,32,58,61,32,120,32,43,32,49,59,32,125]
def ts20:List Tk:=match lexS txt20 with | .inr t=>t | .inl _=>[]
theorem zR7:lexS txt20=.inr ts20:=by kernel_rfl
def ns20:List Nd:=(parE (⟨.nilFunc,0,[],ts20,79⟩:RP)).2.2
theorem ys1 (tv:Value) (B:Nat) (xs:List Value):parE (⟨tv,B,xs,ts20,79⟩:RP)=(0,0,ns20):=by kernel_rfl
theorem zH4:(programR ns20).1=0:=by kernel_rfl
theorem yh5 {P:RP} (h1:lexS txt20=.inr P.ts) (h2:P.en=txt20.length):parE P=(0,0,ns20):=by
 obtain ⟨tv,B,xs,ts,en⟩:=P
 rw [zR7] at h1
 injection h1 with h1
 subst h1
 have e:en=79:=h2
 subst e
 exact ys1 tv B xs
theorem ys2 {ns:List Nd} (h:TxtP txt20 ns):ns=ns20:=by
 obtain ⟨P,h1,h2,_,h3,_⟩:=h
 rw [yh5 h1 h2] at h3
 exact h3.symm
theorem ys3:¬TxtN txt20:=by
 rintro (⟨p,h⟩ | ⟨P,h1,h2,h3⟩)
 ·rw [zR7] at h;cases h
 rw [yh5 h1 h2] at h3
 exact h3 rfl zH4
def cf1:Nat->Int
 | 0=>1
 | 2=>6
 | _=>0
def cf2:Nat->Int
 | 2=>1
 | _=>0
theorem yB2:refuse cf1 []=0:=by kernel_rfl
theorem yB3:refuse cf2 []=0:=by kernel_rfl
theorem yE0:(decide (8<=(spR ns20 cf1).2.1.length)&&(decide ((mgL (ptN ns20) (spR ns20 cf1).1).length=0)&&decide ((spR ns20 cf1).2.1.length<=(spR ns20 cf1).2.2.length)))=true:=by kernel_rfl
theorem yE1:goP (spR ns20 cf2).2.2 0 [0]=some 1:=by kernel_rfl
theorem yh6 (w:World) (hE:PEnv w) :
  Calls Tryz.prog 6 #[] w fun e w'=>e=.returned (.bool true)/\Ok w w':=by
 have HE:=hid hE
 clear hE
 go_enter Tryz.func6,Tryz.ntmps6
 go_wp2_with fail
 refine (zx9 _ w).mono ?_
 rintro e w1 ⟨ht,hk1⟩
 have htx:∀ s:ByteArray,s.data.toList=txt20->s.toList=txt20:=fun s h=>by rw [ByteArray.toList_eq];exact h
 rw [htx _ rfl] at ht
 rcases ht with ⟨ns,v,h1,rfl,h2,h3⟩ | ⟨h1,_⟩
 rotate_left
 ·exact absurd h1 ys3
 have hns:=ys2 h1
 subst hns
 obtain ⟨m,hm⟩:=qq ((programR ns20).2.2)
 rw [<-hm] at h2
 have HK1:Hi (Ok w w1):=hk1
 have hok:∀ n∈ns20,n.Ok:=fun n hn=>yj1 (h3 n hn)
 have hgd:goodD ns20 m=true:=by rw [hm];exact yq0 hok zH4
 have hb1:badP ns20 m cf1 []=0:=by unfold badP;rw [if_pos hgd];exact yB2
 have hb2:badP ns20 m cf2 []=0:=by unfold badP;rw [if_pos hgd];exact yB3
 have hpr:ProgIs w1 (v 0) (v 1) (v 2) (v 3) (v 4) (v 5) ns20 m:=h2.prog hok
 have hnl:∀ Y:World,SL Y 1 (.slice none ([]:List Int).length 0) ([]:List Int).length (ilL []):=fun Y=>⟨rfl,fun u hu=>(by cases hu),none,0,rfl,.inl rfl⟩
 have hsp:∀ Y,Ok w1 Y->Calls Tryz.prog 5 #[.agg #[v 0,v 1,v 2,v 3,v 4,v 5],.agg #[.int .i64 1,.int .i64 0,.int .i64 6,.int .i64 0,.int .i64 0,.int .i64 0,.slice none 0 0,.int .i64 0,.int .i64 0]] Y fun e w'=>PsIs Y (ptN ns20) (spR ns20 cf1) e w':=fun Y hY =>
  (zu0 v cf1 [] none 0 ns20 m Y (HE.o.ok (HK1.o.step hY)) (hpr.below hY) (hnl Y)).mono fun e w' h=>h.elim (fun h=>absurd hb1 h.1) (fun h=>h.2)
 have hfo:∀ Y pv,Ok w1 Y->SL Y 1 pv 1 (ilL [0])->Calls Tryz.prog 14 #[.agg #[v 0,v 1,v 2,v 3,v 4,v 5],.agg #[.int .i64 0,.int .i64 0,.int .i64 1,.int .i64 0,.int .i64 0,.int .i64 0,.slice none 0 0,.int .i64 0,.int .i64 0],pv] Y fun e w'=>e=.returned (.tuple #[.int .i64 1,.int .i64 0])/\Ok Y w':=fun Y pv hY hs=>by
  have h:=yB1 v cf2 [] none 0 ns20 m pv [0] Y (HE.o.ok (HK1.o.step hY)) (hpr.below hY) (hnl Y) hs (by decide) (fun y hy=>by rw [List.mem_singleton.1 hy];rfl)
  have hf:flV (badP ns20 m cf2 []) (spR ns20 cf2).2.2 [0]=(1,0):=by unfold flV;rw [if_pos hb2,yE1];rfl
  rw [hf] at h
  exact h
 obtain ⟨o0,p0,e0⟩:=za0 (h2 0 (by decide))
 obtain ⟨o1,p1,e1⟩:=za0 (h2 1 (by decide))
 obtain ⟨o2,p2,e2⟩:=za0 (h2 2 (by decide))
 obtain ⟨o3,p3,e3⟩:=za0 (h2 3 (by decide))
 obtain ⟨o4,p4,e4⟩:=za0 (h2 4 (by decide))
 obtain ⟨o5,p5,e5⟩:=za0 (h2 5 (by decide))
 rw [e0,e1,e2,e3,e4,e5] at hsp hfo
 rw [e0,e1,e2,e3,e4,e5]
 obtain ⟨n0,hn0⟩:=qq (nOf ns20.length m 0)
 obtain ⟨n1,hn1⟩:=qq (nOf ns20.length m 1)
 obtain ⟨n2,hn2⟩:=qq (nOf ns20.length m 2)
 obtain ⟨n3,hn3⟩:=qq (nOf ns20.length m 3)
 obtain ⟨n4,hn4⟩:=qq (nOf ns20.length m 4)
 obtain ⟨n5,hn5⟩:=qq (nOf ns20.length m 5)
 rw [<-hn0,<-hn1,<-hn2,<-hn3,<-hn4,<-hn5] at hsp hfo ⊢
 have HSP:=hid hsp
 have HFO:=hid hfo
 clear hk1 h1 h2 h3 hm hok hgd hb1 hb2 hpr hnl hsp hfo e0 e1 e2 e3 e4 e5 hn0 hn1 hn2 hn3 hn4 hn5 htx
 go_wp2_with fail
 obtain ⟨W,hW⟩:=qq (w1.alloc (Obj.cells #[.slice o0 n0 p0,.slice o1 n1 p1,.slice o2 n2 p2,.slice o3 n3 p3,.slice o4 n4 p4,.slice o5 n5 p5] 30))
 obtain ⟨gP,hgP⟩:=qq (w1.heap.size)
 rw [<-hW,<-hgP]
 have HKW:Hi (Ok w1 W):=by rw [hW];exact (Ok.refl _).alloc _
 have HPW:Hi (W.heap[gP]?=some (.cells #[.slice o0 n0 p0,.slice o1 n1 p1,.slice o2 n2 p2,.slice o3 n3 p3,.slice o4 n4 p4,.slice o5 n5 p5] 30 (0,0))):=by rw [hW,hgP];exact za3 _ _
 clear hW hgP
 refine (HSP.o W HKW.o).mono ?_
 rintro e w2 ⟨vv,lv,mv,rfl,⟨tl,_,hvv,_⟩,hlv,hmv,hk2⟩
 have HK2:Hi (Ok W w2):=hk2
 obtain ⟨vo,vc,rfl⟩:=za0 hvv
 obtain ⟨lo,lc,rfl⟩:=za0 hlv
 obtain ⟨mo,mc,rfl⟩:=za0 hmv
 obtain ⟨vn,hvn⟩:=qq ((spR ns20 cf1).2.1.length)
 obtain ⟨ln,hln⟩:=qq ((spR ns20 cf1).2.2.length)
 obtain ⟨mn,hmn⟩:=qq ((mgL (ptN ns20) (spR ns20 cf1).1).length)
 have hfx:=yE0
 rw [<-hvn,<-hln,<-hmn] at hfx ⊢
 simp only [Bool.and_eq_true,decide_eq_true_eq] at hfx
 obtain ⟨hx1,hx2,hx3⟩:=hfx
 have hd1:decide ((vn:Int)<8)=false:=decide_eq_false (by omega)
 have hd2:((mn:Int) != 0)=false:=by rw [hx2];rfl
 have hd3:decide ((ln:Int)<(vn:Int))=false:=decide_eq_false (by omega)
 have hi1:¬(vn:Int)<8:=by omega
 have hi3:¬(ln:Int)<(vn:Int):=by omega
 have hb2:((mn:Int)==0)=true:=by rw [hx2];rfl
 clear hvv hlv hmv hk2 hvn hln hmn hx1 hx2 hx3
 obtain ⟨q0,q1,q2,q3,q4,q5,lgq⟩:=row6 (Ok.row' HK2.o HPW.o)
 have hsl:=SL.one (s:=1) (w2.alloc (Obj.cells #[.slice vo vn vc,.slice lo ln lc,.slice mo mn mc] 35)) 3 [.int .i64 0] rfl (by simp [Value.oneCell'])
 rw [show (w2.alloc (Obj.cells #[.slice vo vn vc,.slice lo ln lc,.slice mo mn mc] 35)).heap.size=w2.heap.size+1 from by simp] at hsl
 have HSL:Hi (SL ((w2.alloc (Obj.cells #[.slice vo vn vc,.slice lo ln lc,.slice mo mn mc] 35)).alloc (Obj.cells #[.int .i64 0] 3)) 1 (.slice (some ⟨w2.heap.size+1,0,none⟩) 1 1) 1 (ilL [0])):=hsl
 clear hsl
 go_wp2_with fail
 refine (HFO.o _ _ (((HKW.o.step HK2.o).alloc _).alloc _) HSL.o).mono ?_
 rintro e w3 ⟨rfl,hk3⟩
 have HK3:Hi (Ok w w3):=HK1.o.step ((((HKW.o.step HK2.o).alloc _).alloc _).step hk3)
 clear hk3
 go_wp2_with fail
 go_ret
 exact ⟨rfl,HK3.o⟩
end
section
open Go.RowKit Go.Maps
theorem yE2 {p:Pl} {vs:List Vx} {ls:List Lk} (h:FI p vs.length vs ls) (hfr:∀ e∈p.es,I64 e.from') (hl:p.es.length<=100000) (hU:0<=p.U/\p.U<=1000) (j:Nat):∀ v,vs[j]?=some v->TkB j v.2:=by
 have hM:∀ j,TkB j tokM:=fun j=>⟨Nat.zero_le _,Nat.zero_le _,fun x hx=>(by cases hx),fun x hx=>(by cases hx)⟩
 induction j using Nat.strongRecOn with
 | _ j ih =>
  intro v hj
  obtain ⟨hjl,_⟩:=List.getElem?_eq_some_iff.1 hj
  by_cases c:j=0
  ·subst c
   rw [h.first] at hj
   injection hj with hj
   rw [<-hj]
   show TkB 0 (p.tok 0 tokE)
   unfold Pl.tok
   split
   ·exact hM 0
   exact ⟨Nat.zero_le _,Nat.zero_le _,fun x hx=>(by cases hx),fun x hx=>(by cases hx)⟩
  obtain ⟨l,m1,m2,m3⟩:=h.led j (by omega) hjl
  obtain ⟨v',e,a1,a2,_,a4⟩:=h.link m1
  rw [m2,hj] at a4
  injection a4 with a4
  rw [a4]
  show TkB j (p.tok e.to' (stepT p.H p.U e l.2.2 v'.2))
  have b2:=(List.getElem?_eq_some_iff.1 a2).1
  have hs:=(TkB.step (H:=p.H) (U:=p.U) (e:=e) (i:=l.2.2) (ih l.1 m3 v' a1) (hfr e (List.mem_of_getElem? a2)) (by unfold I64;omega) hU).up (show l.1+1<=j by omega)
  unfold Pl.tok
  split
  ·exact hM j
  exact hs
theorem hf_of {ns:List Nd} {l:Ls} {c:Nat->Int} {ts:List Int} (h:badP ns l c ts=0):∃ B,HF (plOf (c 2).toNat (c 0) (c 1) (elF ns) (spR ns c).1) (ptN ns) (c 2) (mgL (ptN ns) (spR ns c).1) (spR ns c).2.1 (spR ns c).2.2 (elF ns) B:=by
 obtain ⟨hg,hr⟩:=zm1 h
 have hc:=zp8 hr
 have hG:=gr_ok hg
 have hF:=ye8 h
 have hm:=(zs8 (show 0<(c 2).toNat by omega) hG.wit (Nat.lt_succ_self _) (ptN ns+1) [] (spR ns c) List.nodup_nil (fun n hn=>by cases hn) (zK9 h)).2.1
 obtain ⟨hk1,hk2,hk3⟩:=lk_ok h
 obtain ⟨R,hR⟩:=qq (spR ns c)
 rw [<-hR] at hF hm hk1 hk2 hk3 ⊢
 obtain ⟨p,hp⟩:=qq (plOf (c 2).toNat (c 0) (c 1) (elF ns) R.1)
 have p1:p.es=elF ns:=by rw [hp];rfl
 have p2:p.cap=(c 2).toNat:=by rw [hp];rfl
 have p3:p.U=c 1:=by rw [hp];rfl
 have p4:∀ n,p.mgd n=decide (n∈R.1):=fun n=>by rw [hp];rfl
 rw [<-hp] at hF ⊢
 have hpt:=hG.pts
 have hel:=hG.els
 have hmm:∀ n,n∈mgL (ptN ns) R.1->0<=n/\n<(ptN ns:Int):=fun n hn=>hm n ((yb4 hm n).1 hn)
 have hnd:∀ v∈R.2.1,0<=v.1/\v.1<(ptN ns:Int):=fun v hv=>by
  rcases hF.vi.dom v hv with e | ⟨d,d1,d2⟩
  ·have:=hG.wit.1;omega
  rw [p1] at d1
  have:=hG.wit.2 d d1
  omega
 have htk:=hF.toks
 have htb:=yE2 hF (fun e he=>by rw [p1] at he;have:=hG.frm e he;unfold I64;omega) (by rw [p1];omega) (by rw [p3];omega)
 obtain ⟨LL,k1,k2,k3⟩:=hF.rows
 refine ⟨before LL,yn9 _ _,hmm,?_,fun n=>?_,⟨hk3,by omega,?_,by omega,by omega⟩,hnd,hG.wit.2,fun v hv=>?_,fun k n=>?_,fun k v hv hin=>?_,fun v hv hmg=>?_,by simp [before],fun i v hv=>?_,?_,fun i k v e hv he hf=>?_,fun j h1 h2=>FI.ledAt hF.led k2 k3 h1 h2⟩
 ·have:(mgL (ptN ns) R.1).length<=ptN ns:=by
   unfold mgL
   refine Nat.le_trans (List.length_filter_le _ _) ?_
   simp
  omega
 ·rw [p4,Bool.eq_iff_iff,decide_eq_true_eq,decide_eq_true_eq]
  exact yb4 hm n
 ·exact Nat.le_trans hk1.1 (by omega)
 ·obtain ⟨j,hj⟩:=List.mem_iff_getElem?.1 hv
  obtain ⟨hl,_⟩:=List.getElem?_eq_some_iff.1 hj
  exact (htb j v hj).up (by omega)
 ·have:=yb3 hF.vi k n
  rw [p2] at this
  omega
 ·obtain ⟨u,hu,he⟩:=List.mem_map.1 hin
  have hu':=List.mem_of_mem_take hu
  have hv':=List.mem_of_getElem? hv
  have b1:=hnd u hu'
  have b2:=hnd v hv'
  have he:=yy0 zz7 (htk u hu') (htk v hv') ⟨b1.1,by omega⟩ ⟨b2.1,by omega⟩ he
  subst he
  obtain ⟨i,hi⟩:=List.mem_iff_getElem?.1 hu
  rw [List.getElem?_take] at hi
  split at hi
  ·rename_i hik
   obtain ⟨i1,i2⟩:=List.getElem?_eq_some_iff.1 hi
   obtain ⟨j1,j2⟩:=List.getElem?_eq_some_iff.1 hv
   have h9:=(List.pairwise_iff_getElem.1 hF.vi.nd) i k i1 j1 hik
   rw [i2,j2] at h9
   exact h9 rfl
  cases hi
 ·rw [hF.vi.mg v hv hmg];rfl
 ·obtain ⟨hi,_⟩:=List.getElem?_eq_some_iff.1 hv
  have hL:LL[i]?=some (LL[i]'(by omega)):=List.getElem?_eq_getElem (by omega)
  obtain ⟨v',hv',hrow⟩:=k3 i _ hL
  rw [hv] at hv'
  injection hv' with hv'
  subst hv'
  rw [zt0 hL,hrow.1,p1,zP8]
 ·rw [<-k1,zU0,<-k2]
 rw [<-p1] at he ⊢
 obtain ⟨l,g1,g2,g3,g4⟩:=FI.at k2 k3 k1 hv he hf
 exact ⟨l,g1,g2,g3,g4⟩
end
section
open Go.RowKit Go.Maps
theorem yh7 (v:Nat->Value) (c:Nat->Int) (ts:List Int) (tz:Option Addr) (tc:Nat) (ns:List Nd) (l:Ls) (w:World) (hE:PEnv w) (h:ProgIs w (v 0) (v 1) (v 2) (v 3) (v 4) (v 5) ns l) (hts:SL w 1 (.slice tz ts.length tc) ts.length (ilL ts)) (hb:badP ns l c ts=0) :
  Calls Tryz.prog 12 #[.agg #[v 0,v 1,v 2,v 3,v 4,v 5],.agg #[.int .i64 (c 0),.int .i64 (c 1),.int .i64 (c 2),.int .i64 (c 3),.int .i64 (c 4),.int .i64 (c 5),.slice tz ts.length tc,.int .i64 (c 7),.int .i64 (c 8)]] w fun e w'=>LwIs w (some (ptN ns,ptF ns ns.length,elF ns)) e w':=by
 obtain ⟨hg,hr⟩:=zm1 hb
 refine zG2 v c ts tz tc _ _ _ w (fun Y hY=>?_) (fun Y hY=>?_)
 ·have h1:=yv6 v ns l Y (hE.ok hY).rules (hE.ok hY).steps (h.below hY)
  have e1:lwG ns l=some (ptN ns,ptF ns ns.length,elF ns):=by unfold lwG ptN;rw [if_pos hg]
  rw [e1] at h1
  exact h1
 obtain ⟨et,eu,he⟩:=(hE.ok hY).errC
 have h1:=zF8 c ts tz tc Y (hts.below hY) et eu he
 rw [hr] at h1
 exact h1
theorem yF0 (s:ByteArray) (c:Nat->Int) (ts:List Int) (tz:Option Addr) (tc:Nat) (w:World) (hE:PEnv w) (hts:SL w 1 (.slice tz ts.length tc) ts.length (ilL ts)) :
  Calls Tryz.prog 3 #[.string s,.agg #[.int .i64 (c 0),.int .i64 (c 1),.int .i64 (c 2),.int .i64 (c 3),.int .i64 (c 4),.int .i64 (c 5),.slice tz ts.length tc,.int .i64 (c 7),.int .i64 (c 8)]] w fun e w'=>e=.returned (.bool true)/\Ok w w':=by
 refine yh2 s c tz ts.length tc w (fun Y hY=>(zx9 s Y).mono fun e w' h=>?_)
 obtain ⟨ns,m,v,he,hsl,hpr,hk⟩:=PgIs.of h.1 h.2
 have hW:Ok w w':=hY.step hk
 have hB:∃ B,badP ns m c ts=0->HF (plOf (c 2).toNat (c 0) (c 1) (elF ns) (spR ns c).1) (ptN ns) (c 2) (mgL (ptN ns) (spR ns c).1) (spR ns c).2.1 (spR ns c).2.2 (elF ns) B:=by
  by_cases hb:badP ns m c ts=0
  ·obtain ⟨B,h⟩:=hf_of hb
   exact ⟨B,fun _=>h⟩
  exact ⟨fun _=>0,fun h=>absurd h hb⟩
 obtain ⟨B,hB⟩:=hB
 refine ⟨v,badP ns m c ts,ptN ns,ptF ns ns.length,spR ns c,elF ns,_,B,he,hsl,hk,⟨fun Z hZ=>zu0 v c ts tz tc ns m Z (hE.ok (hW.step hZ)) (hpr.below hZ) (hts.below (hW.step hZ)),fun hb Z hZ=>(zO1 _ _ _ _ _ _ ns m Z (hpr.below hZ) (zm1 hb).1).mono fun e w2 h=>h,fun hb Z hv lv t k e hZ hek ht htb=>?_,fun Z hv lv t hZ ht htb=>yA9 hv lv t Z ht htb (hE.ok (hW.step hZ)).tab,fun Z hZ=>yh6 Z (hE.ok (hW.step hZ))⟩,fun hb=>⟨hB hb,rfl,rfl⟩⟩
 have hc:=zp8 (zm1 hb).2
 have hG:=gr_ok (zm1 hb).1
 exact yB0 v c tz ts.length tc (ptN ns) (ptF ns ns.length) (elF ns) e k t hv lv Z (fun Y hY=>yh7 v c ts tz tc ns m Y (hE.ok (hW.step (hZ.step hY))) (hpr.below (hZ.step hY)) (hts.below (hW.step (hZ.step hY))) hb) hsl (by omega) hek (by have:=hG.els;omega) ht htb
end
section
open Go.ChangeShapes Go.WideShapes Go.ChangeAt Go.RowKit
theorem own:ownKnob Tryz.prog.godebug=none:=by kernel_rfl
theorem ys4 (os:Os) (args:Array Value):laidMetH Tryz.prog Rows.partHoldsRow.laid ((World.doorLaid Tryz.prog 4000 os).forCall (fun _ _=>0) ⟨#[],args,[]⟩).memory :=
 laidMetH_of_parts3 (fuel:=12) (laidMet_of_run' 12 (by kernel_rfl) (by kernel_rfl)) (by kernel_rfl) (by kernel_rfl)
section
variable {H:Type} {enc:TypeId×Value->H} {w:World} {base:Nat} {sp:Nat->Bool} {held:Bool}
theorem cellsA:Tryz.prog.cellsOf 250=1/\Tryz.prog.cellsOf 4=1/\Tryz.prog.cellsOf 2=1/\Tryz.prog.cellsOf 251=2/\Tryz.prog.cellsOf 252=3/\Tryz.prog.cellsOf 5=1/\Tryz.prog.cellsOf 254=9/\Tryz.prog.cellsOf 73=1:=by
 refine ⟨?_,?_,?_,?_,?_,?_,?_,?_⟩<;>kernel_rfl
theorem cellsB:Tryz.prog.cellsOf 182=2/\Tryz.prog.cellsOf 54=1:=by
 refine ⟨?_,?_⟩<;>kernel_rfl
theorem yB4 {fuel:Nat} {cs:List Value} {s:Bool} {l:Int} {p:List MemPlace} (h:DataW.trod enc Tryz.prog w base sp held fuel 182 cs=some (.agg [.lit (.bool s),.lit (.int .i64 l)],p)) :
  cs=[.bool s,.int .i64 l]:=by
 obtain ⟨xs,m,_,hx,hl,hlen,hf⟩:=DataW.trod_struct Tryz.underlying182 h
 rw [cellsB.1] at hl
 match xs,hlen,cs,hl with
 | [y0,y1],_,[c0,c1],_ =>
  have h0:DataW.trod enc Tryz.prog w base sp held m 4 (([c0,c1].drop 0).take (Tryz.prog.cellsOf 4))=some y0:=hf 0 _ rfl
  rw [cellsA.2.1,show ([c0,c1].drop 0).take 1=[c0] from rfl] at h0
  have h1:DataW.trod enc Tryz.prog w base sp held m 54 (([c0,c1].drop 1).take (Tryz.prog.cellsOf 54))=some y1:=hf 1 _ rfl
  rw [cellsB.2,show ([c0,c1].drop 1).take 1=[c1] from rfl] at h1
  obtain ⟨s',e0,r0⟩:=DataW.trod_bool Tryz.underlying4 h0
  obtain ⟨l',e1,r1,_⟩:=DataW.trod_int Tryz.underlying54 h1
  simp only [List.cons.injEq,and_true] at e0 e1
  subst e0 e1 r0 r1
  simp only [List.map_cons,List.map_nil,Prod.mk.injEq,DataW.agg.injEq,List.cons.injEq,DataW.lit.injEq,Lit.bool.injEq,Lit.int.injEq,and_true,true_and] at hx
  obtain ⟨⟨rfl,rfl⟩,_⟩:=hx
  rfl
theorem yB5 {fuel:Nat} {cs:List Value} {a0 a2 a3 a4 a5 a6 a7 a8:Int} {a1:Bool} {p:List MemPlace}
  (h:DataW.trod enc Tryz.prog w base sp held fuel 254 cs=some (.agg [.lit (.int .u8 a0),.lit (.bool a1),.lit (.int .i64 a2),.agg [.lit (.int .i64 a3),.lit (.int .i64 a4)],.agg [.lit (.int .u8 a5),.lit (.int .u8 a6),.lit (.int .u8 a7)],.lit (.int .u8 a8)],p)) :
  cs=[.int .u8 a0,.bool a1,.int .i64 a2,.int .i64 a3,.int .i64 a4,.int .u8 a5,.int .u8 a6,.int .u8 a7,.int .u8 a8]:=by
 obtain ⟨xs,m,_,hx,hl,hlen,hf⟩:=DataW.trod_struct Tryz.underlying254 h
 obtain ⟨c71,c4,c2,c72,c73,c5,c75,c29⟩:=cellsA
 rw [c75] at hl
 match xs,hlen,cs,hl with
 | [y0,y1,y2,y3,y4,y5],_,[k0,k1,k2,k3,k4,k5,k6,k7,k8],_ =>
  have h0:DataW.trod enc Tryz.prog w base sp held m 250 (([k0,k1,k2,k3,k4,k5,k6,k7,k8].drop 0).take (Tryz.prog.cellsOf 250))=some y0:=hf 0 _ rfl
  rw [c71,show ([k0,k1,k2,k3,k4,k5,k6,k7,k8].drop 0).take 1=[k0] from rfl] at h0
  have h1:DataW.trod enc Tryz.prog w base sp held m 4 (([k0,k1,k2,k3,k4,k5,k6,k7,k8].drop 1).take (Tryz.prog.cellsOf 4))=some y1:=hf 1 _ rfl
  rw [c4,show ([k0,k1,k2,k3,k4,k5,k6,k7,k8].drop 1).take 1=[k1] from rfl] at h1
  have h2:DataW.trod enc Tryz.prog w base sp held m 2 (([k0,k1,k2,k3,k4,k5,k6,k7,k8].drop 2).take (Tryz.prog.cellsOf 2))=some y2:=hf 2 _ rfl
  rw [c2,show ([k0,k1,k2,k3,k4,k5,k6,k7,k8].drop 2).take 1=[k2] from rfl] at h2
  have h3:DataW.trod enc Tryz.prog w base sp held m 251 (([k0,k1,k2,k3,k4,k5,k6,k7,k8].drop 3).take (Tryz.prog.cellsOf 251))=some y3:=hf 3 _ rfl
  rw [c72,show ([k0,k1,k2,k3,k4,k5,k6,k7,k8].drop 3).take 2=[k3,k4] from rfl] at h3
  have h4:DataW.trod enc Tryz.prog w base sp held m 252 (([k0,k1,k2,k3,k4,k5,k6,k7,k8].drop 5).take (Tryz.prog.cellsOf 252))=some y4:=hf 4 _ rfl
  rw [c73,show ([k0,k1,k2,k3,k4,k5,k6,k7,k8].drop 5).take 3=[k5,k6,k7] from rfl] at h4
  have h5:DataW.trod enc Tryz.prog w base sp held m 5 (([k0,k1,k2,k3,k4,k5,k6,k7,k8].drop 8).take (Tryz.prog.cellsOf 5))=some y5:=hf 5 _ rfl
  rw [c5,show ([k0,k1,k2,k3,k4,k5,k6,k7,k8].drop 8).take 1=[k8] from rfl] at h5
  obtain ⟨z0,e0,r0,_⟩:=DataW.trod_int Tryz.underlying250 h0
  obtain ⟨z1,e1,r1⟩:=DataW.trod_bool Tryz.underlying4 h1
  obtain ⟨z2,e2,r2,_⟩:=DataW.trod_int Tryz.underlying2 h2
  obtain ⟨z8,e8,r8,_⟩:=DataW.trod_int Tryz.underlying5 h5
  simp only [List.map_cons,List.map_nil,Prod.mk.injEq,DataW.agg.injEq,List.cons.injEq,and_true] at hx
  obtain ⟨⟨hx0,hx1,hx2,hx3,hx4,hx5⟩,_⟩:=hx
  have g3:[k3,k4]=[a3,a4].map fun z=>Value.int .i64 z:=Lib.cells_of_tab (p:=y3.2) Tryz.underlying251 Tryz.underlying73 c29 c72 (by rw [h3,show Lib.tabData .i64 [a3,a4]=y3.1 from hx3])
  have g4:[k5,k6,k7]=[a5,a6,a7].map fun z=>Value.int .u8 z:=Lib.cells_of_tab (p:=y4.2) Tryz.underlying252 Tryz.underlying250 c71 c73 (by rw [h4,show Lib.tabData .u8 [a5,a6,a7]=y4.1 from hx4])
  simp only [List.map_cons,List.map_nil,List.cons.injEq,and_true] at g3 g4 e0 e1 e2 e8
  obtain ⟨rfl,rfl⟩:=g3
  obtain ⟨rfl,rfl,rfl⟩:=g4
  subst e0 e1 e2 e8 r0 r1 r2 r8
  simp only [DataW.lit.injEq,Lit.int.injEq,Lit.bool.injEq,true_and] at hx0 hx1 hx2 hx5
  subst hx0 hx1 hx2 hx5
  rfl
end
def stepData {H:Type}:DataW H:=.agg ((List.range 16).map fun k=>.agg [.lit (.bool (decide (2<=k)&&decide (k<=8))),.lit (.int .i64 (opT.getD k 0))])
def ruleData {H:Type}:DataW H:=.agg ((List.range 16).map fun k=>.agg [.lit (.int .u8 (rSort k)),.lit (.bool (rNamed k)),.lit (.int .i64 (rMost k)),.agg [.lit (.int .i64 (rOp0 k)),.lit (.int .i64 (rOp1 k))],.agg [.lit (.int .u8 (rH0 k)),.lit (.int .u8 (rH1 k)),.lit (.int .u8 (rH2 k))],.lit (.int .u8 (rWant k))])
theorem zM1:Rows.laid_winnow_cfg_steps (H:=Unit)=stepData:=rfl
theorem zM2:Rows.laid_winnow_parse_rules (H:=Unit)=ruleData:=rfl
theorem zR8 {P:Program} {W:World} {name:String} {ds:List (DataW Unit)} {rest:List (String×DataW Unit)} {g:Nat} {t e:TypeId} {n c:Nat}
  (hg:P.globalNamed name=some g) (hty:(P.globals[g]?).map (·.type)=some t) (ht:P.underlying t=some (.array n e)) (hce:P.cellsOf e=c)
  (h:laidMet P ((name,.agg ds)::rest) W):∃ (cs:Array Value) (enc:TypeId×Value->Unit) (base:Nat) (sp:Nat->Bool) (held:Bool) (m:Nat),W.var? P name=some cs/\ds.length=n /\
   ∀ i d,ds[i]?=some d->∃ p,DataW.trod enc P W base sp held m e ((cs.toList.drop (i*c)).take c)=some (d,p):=by
 obtain ⟨ps,⟨g',t',cs,fuel,p,q,hg',ht',hvar,hd,_,_⟩,_⟩:=h
 obtain rfl:=Option.some.inj (hg.symm.trans hg')
 obtain rfl:=Option.some.inj (hty.symm.trans ht')
 obtain ⟨xs,m,_,hx,_,hlen,hel⟩:=DataW.trod_array ht hd
 have hds:ds=xs.map (·.1):=by
  have:=congrArg Prod.fst hx
  simpa using this
 refine ⟨cs,fun _=>(),0,fun _=>true,false,m,hvar,by rw [hds];simpa using hlen,?_⟩
 intro i d hi
 have hi':i<xs.length:=by
  have:=(List.getElem?_eq_some_iff.1 hi).1
  rw [hds] at this
  simpa using this
 have h9:=hel i (by omega)
 rw [hce] at h9
 refine ⟨xs[i].2,?_⟩
 rw [h9,List.getElem?_eq_getElem hi']
 rw [hds,List.getElem?_map,List.getElem?_eq_getElem hi'] at hi
 have:xs[i].1=d:=by simpa using hi
 rw [<-this]
theorem zf2 {cs:List Value} {i c j:Nat} {l:List Value} {v:Value} (h:(cs.drop (i*c)).take c=l) (hj:l[j]?=some v):cs[i*c+j]?=some v:=by
 rw [<-h,List.getElem?_take] at hj
 split at hj
 ·rw [List.getElem?_drop] at hj;exact hj
 cases hj
theorem yh8 {W:World} {b o:Nat} {v:Value} (h:W.cell? ⟨b,o,none⟩=some v):b<W.heap.size:=by
 rcases Nat.lt_or_ge b W.heap.size with hh | hh
 ·exact hh
 simp [World.cell?,Array.getElem?_eq_none hh] at h
theorem zB5 {W:World} {rest:List (String×DataW Unit)} (h:laidMet Tryz.prog (("winnow/cfg.steps",Rows.laid_winnow_cfg_steps)::rest) W):StepsIs W:=by
 rw [zM1] at h
 have hg:Tryz.prog.globalNamed "winnow/cfg.steps" = some 3:=by kernel_rfl
 obtain ⟨cs,enc,base,sp,held,m,hvar,_,hel⟩:=zR8 (g:=3) (t:=183) hg (by kernel_rfl) Tryz.underlying183 cellsB.1 h
 have key:∀ k,k<16->(cs.toList.drop (k*2)).take 2=[.bool (decide (2<=k)&&decide (k<=8)),.int .i64 (opT.getD k 0)]:=by
  intro k hk
  obtain ⟨p,hp⟩:=hel k _ (by rw [List.getElem?_map,List.getElem?_range hk];rfl)
  exact yB4 hp
 have cell:∀ (j:Nat) (v:Value),cs.toList[j]?=some v->W.cell? ⟨3,j,none⟩=some v:=by
  intro j v hv
  rw [World.var?_cell hg hvar j,<-Array.getElem?_toList]
  exact hv
 exact ⟨yh8 (cell _ _ (zf2 (j:=0) (key 0 (by decide)) rfl)),fun k hk=>cell _ _ (zf2 (j:=0) (key k hk) rfl),fun k hk=>cell _ _ (zf2 (j:=1) (key k hk) rfl)⟩
theorem zB6 {W:World} {rest:List (String×DataW Unit)} (h:laidMet Tryz.prog (("winnow/parse.rules",Rows.laid_winnow_parse_rules)::rest) W):RulesIs W:=by
 rw [zM2] at h
 have hg:Tryz.prog.globalNamed "winnow/parse.rules" = some 5:=by kernel_rfl
 obtain ⟨cs,enc,base,sp,held,m,hvar,_,hel⟩:=zR8 (g:=5) (t:=255) hg (by kernel_rfl) Tryz.underlying255 cellsA.2.2.2.2.2.2.1 h
 have key:∀ k,k<16->(cs.toList.drop (k*9)).take 9=[.int .u8 (rSort k),.bool (rNamed k),.int .i64 (rMost k),.int .i64 (rOp0 k),.int .i64 (rOp1 k),.int .u8 (rH0 k),.int .u8 (rH1 k),.int .u8 (rH2 k),.int .u8 (rWant k)]:=by
  intro k hk
  obtain ⟨p,hp⟩:=hel k _ (by rw [List.getElem?_map,List.getElem?_range hk];rfl)
  exact yB5 hp
 have cell:∀ (j:Nat) (v:Value),cs.toList[j]?=some v->W.cell? ⟨5,j,none⟩=some v:=by
  intro j v hv
  rw [World.var?_cell hg hvar j,<-Array.getElem?_toList]
  exact hv
 exact ⟨yh8 (cell _ _ (zf2 (j:=0) (key 0 (by decide)) rfl)),fun k hk=>cell _ _ (zf2 (j:=0) (key k hk) rfl),fun k hk=>cell _ _ (zf2 (j:=1) (key k hk) rfl),fun k hk=>cell _ _ (zf2 (j:=2) (key k hk) rfl),fun k hk=>cell _ _ (zf2 (j:=3) (key k hk) rfl),
  fun k hk=>cell _ _ (zf2 (j:=4) (key k hk) rfl),fun k hk=>cell _ _ (zf2 (j:=5) (key k hk) rfl),fun k hk=>cell _ _ (zf2 (j:=6) (key k hk) rfl),fun k hk=>cell _ _ (zf2 (j:=7) (key k hk) rfl),fun k hk=>cell _ _ (zf2 (j:=8) (key k hk) rfl)⟩
theorem ys5:((List.range Tryz.prog.types.size).filter fun t=>Tryz.prog.rowNamed t [101,114,114,111,114])=[90]:=by kernel_rfl
theorem yB6 {W:World} {x:String×DataW Unit} (hx:x=("errors.errorType",Rows.laid_errors_errorType)) (h:handlesMet Tryz.prog [x] W):W.cell? ⟨0,0,none⟩=some (.iface 188 (.agg #[.pointer (some ⟨8,90,none⟩)])):=by
 subst hx
 obtain ⟨name,u,ty,e1,e2,e3,e4,e5⟩:=h _ (List.mem_singleton.2 rfl)
 have en:name=[101,114,114,111,114]:=(Option.some.inj e1).symm
 subst en
 obtain rfl:=Option.some.inj ((show (Tryz.prog.cutTypes.find? (·.1 == "internal/reflectlite.rtype")).map (·.2)=some 188 by kernel_rfl).symm.trans e2)
 have hm:ty∈(List.range Tryz.prog.types.size).filter fun t=>Tryz.prog.rowNamed t [101,114,114,111,114]:=List.mem_filter.2 ⟨List.mem_range.2 e3,e4⟩
 rw [ys5] at hm
 obtain rfl:=List.mem_singleton.1 hm
 have hh:typeHandle Tryz.prog 90=.pointer (some ⟨8,90,none⟩):=by kernel_rfl
 rw [hh] at e5
 simpa using World.var?_cell (show Tryz.prog.globalNamed "errors.errorType" = some 0 by kernel_rfl) e5 0
theorem zH5 : "*" ++ "errors.errorString" = "*errors.errorString" := by decide
theorem ys6 (u:TypeId) (h:Tryz.prog.typeName? 3 u=some "*errors.errorString"):u=272 :=
 typeName_ptr_named (nm := "errors.errorString") (by rw [zH5];kernel_rfl) (by kernel_rfl) (by decide) u (by rw [zH5];exact h)
theorem zM3 {W:World} (h:laidMetH Tryz.prog Rows.partHoldsRow.laid W):PEnv W:=by
 have h':laidMet Tryz.prog [("math/bits.deBruijn32tab",Rows.laid_math_bits_deBruijn32tab),("math/bits.deBruijn64tab",Rows.laid_math_bits_deBruijn64tab),("internal/strconv.uint64pow10",Rows.laid_internal_strconv_uint64pow10),("winnow/api.ErrReject",Rows.laid_winnow_api_ErrReject),("winnow/api.ErrConfig",Rows.laid_winnow_api_ErrConfig),("winnow/parse.rules",Rows.laid_winnow_parse_rules),("winnow/cfg.steps",Rows.laid_winnow_cfg_steps)] W/\handlesMet Tryz.prog [("errors.errorType",Rows.laid_errors_errorType)] W:=h
 have h2:=laidMet.tail (laidMet.tail h'.1)
 have h4:=laidMet.tail (laidMet.tail h2)
 have h5:=laidMet.tail h4
 obtain ⟨a,s,hv,_⟩:=laid_sentinel (g:=1) (ti:=90) (tp:=272) (te:=290) (ts:=9) h4 (by kernel_rfl) (by kernel_rfl) Tryz.underlying90 (fun u hu=>ys6 u hu) Tryz.underlying272 Tryz.underlying290 rfl rfl Tryz.underlying9 (by kernel_rfl) (by kernel_rfl)
 exact ⟨zB6 h5,zB5 (laidMet.tail h5),Lib.tabBelow_of_tabIs (Lib.tabIs_of_head (g:=4) (t:=234) (by kernel_rfl) (by kernel_rfl) Tryz.underlying234 Tryz.underlying211 (by kernel_rfl) (by kernel_rfl) h2),⟨_,_,by simpa using World.var?_cell (show Tryz.prog.globalNamed "winnow/api.ErrConfig" = some 1 by kernel_rfl) hv 0⟩,yB6 rfl h'.2⟩
end
section
open Go.RowKit Go.Deep Go.WideShapes Go.ChangeShapes
theorem yB7 {P:Program} {H:Type} {enc:TypeId×Value->H} {w:World} {t e:TypeId} (ht:P.underlying t=some (.slice e)) (hi:P.underlying e=some (.int .i64)) (hc:P.cellsOf e=1) {fuel:Nat} {c:Value} {x:DataW H×List MemPlace} (h:DataW.trod enc P w 0 (fun _=>true) true fuel t [c]=some x) :
  ∃ (l:List Int) (ao:Option Addr) (cap:Nat),c=.slice ao l.length cap/\SL w 1 c l.length (ilL l)/\∀ y∈l,(Lit.int .i64 y).wf=true:=by
 rcases open_slice ht h with ⟨h0,_⟩ | ⟨a,len,cap,m,n,D,Pl,hcs,_,hl,hm,hme,hx,hel⟩
 ·have e0:c=.slice none 0 0:=by simpa using h0
  exact ⟨[],none,0,e0,⟨rfl,fun u hu=>(by cases hu),none,0,e0,.inl rfl⟩,fun y hy=>(by cases hy)⟩
 simp only [if_true] at hme
 subst hme
 rw [hc] at hel
 have hex:∀ i,∃ y:Int,i<len->w.cells? 0 (a.add (i*1)) 1=some [.int .i64 y]/\(Lit.int .i64 y).wf=true:=by
  intro i
  by_cases hi':i<len
  ·obtain ⟨cs',h1,h2⟩:=hel i (by omega)
   obtain ⟨y,e1,_,e3⟩:=DataW.trod_int hi h2
   subst e1
   exact ⟨y,fun _=>⟨h1,e3⟩⟩
  exact ⟨0,fun hh=>absurd hh hi'⟩
 obtain ⟨f,hf⟩:=Classical.axiomOfChoice hex
 have hc':c=.slice (some a) len m:=by simpa using hcs
 have hlen:((List.range len).map f).length=len:=by simp
 have hwf:∀ y∈(List.range len).map f,(Lit.int .i64 y).wf=true:=fun y hy=>by
  obtain ⟨i,hi',rfl⟩:=List.mem_map.1 hy
  exact (hf i (List.mem_range.1 hi')).2
 refine ⟨(List.range len).map f,some a,m,by rw [hlen];exact hc',⟨by simp [ilL],zJ6 _,some a,m,by rw [hlen];exact hc',?_⟩,hwf⟩
 rcases Nat.eq_zero_or_pos len with e0 | hpos
 ·exact .inl (by rw [hlen];exact e0)
 right
 have hcell:∀ i,i<len->w.cell? (a.add i)=some (.int .i64 (f i)):=fun i hi'=>by
  have h9:=(World.cells?_some (hf i hi').1).2.2 0 (by decide)
  rw [Nat.mul_one] at h9
  simpa [Addr.add] using h9
 obtain ⟨b,o,y⟩:=a
 have h00:=hcell 0 hpos
 have hy:y=none:=by simpa [Addr.add] using World.cell?_spot h00
 subst hy
 refine ⟨b,o,rfl,?_,fun j u hj=>?_⟩
 ·rcases Nat.lt_or_ge b w.heap.size with hh | hh
  ·exact hh
  rw [Go.WideShapes.add_plain] at h00
  simp [World.cell?,Array.getElem?_eq_none hh] at h00
 have hj':j<len:=by have:=(List.getElem?_eq_some_iff.1 hj).1;simpa [ilL] using this
 have h9:=hcell j hj'
 rw [Go.WideShapes.add_plain] at h9
 rw [h9]
 unfold ilL at hj
 simpa [hj'] using hj
theorem ccells:Tryz.prog.cellsOf 3=1/\Tryz.prog.cellsOf 2=1/\Tryz.prog.cellsOf 22=1/\Tryz.prog.cellsOf 24=9:=by
 refine ⟨?_,?_,?_,?_⟩<;>kernel_rfl
def cfN (a0 a1 a2 a3 a4 a5 a7 a8:Int):Nat->Int
 | 0=>a0
 | 1=>a1
 | 2=>a2
 | 3=>a3
 | 4=>a4
 | 5=>a5
 | 7=>a7
 | 8=>a8
 | _=>0
theorem yh9 {H:Type} {enc:TypeId×Value->H} {w:World} {r:Reach} {b0:Nat} {v:Value} {d:DataW H} {ps:List MemPlace} (hval:Value.okWide Tryz.prog w r b0 24 v) (hd:DataW.Trod enc Tryz.prog w 0 (fun _=>true) true 24 v d ps) :
  ∃ (c:Nat->Int) (ts:List Int) (tz:Option Addr) (tc:Nat),v=.agg #[.int .i64 (c 0),.int .i64 (c 1),.int .i64 (c 2),.int .i64 (c 3),.int .i64 (c 4),.int .i64 (c 5),.slice tz ts.length tc,.int .i64 (c 7),.int .i64 (c 8)]/\SL w 1 (.slice tz ts.length tc) ts.length (ilL ts):=by
 obtain ⟨cs,rfl,hcs⟩:=okWide_struct Tryz.underlying24 hval
 obtain ⟨fuel,hf⟩:=hd
 obtain ⟨xs,m,_,hxx,hl,hlen,hg⟩:=DataW.trod_struct Tryz.underlying24 hf
 obtain ⟨u3,u6,us,uc⟩:=ccells
 have hl2:cs.toList.length=9:=by rw [uc] at hcs;simpa using hcs
 have hcc:(Value.agg cs).cells.toList=cs.toList:=by simp [Value.cells]
 obtain ⟨L,hL⟩:=qq (cs.toList)
 have hca:cs=L.toArray:=by rw [hL]
 rw [<-hL] at hl2 hcc
 match xs,hlen,L,hl2 with
 | [y0,y1,y2,y3,y4,y5,y6,y7,y8],_,[c0,c1,c2,c3,c4,c5,c6,c7,c8],_ =>
  have key:∀ (k:Nat) (t:TypeId) (c:Value) (y:DataW H×List MemPlace),DataW.trod enc Tryz.prog w 0 (fun _=>true) true m t (((Value.agg cs).cells.toList.drop k).take (Tryz.prog.cellsOf t))=some y->Tryz.prog.cellsOf t=1->([c0,c1,c2,c3,c4,c5,c6,c7,c8].drop k).take 1=[c]->DataW.trod enc Tryz.prog w 0 (fun _=>true) true m t [c]=some y:=fun k t c y h h1 h2=>by
   rw [hcc,h1,h2] at h
   exact h
  obtain ⟨a0,e0,_,_⟩:=DataW.trod_int Tryz.underlying3 (key 0 3 c0 y0 (hg 0 _ rfl) u3 rfl)
  obtain ⟨a1,e1,_,_⟩:=DataW.trod_int Tryz.underlying3 (key 1 3 c1 y1 (hg 1 _ rfl) u3 rfl)
  obtain ⟨a2,e2,_,_⟩:=DataW.trod_int Tryz.underlying3 (key 2 3 c2 y2 (hg 2 _ rfl) u3 rfl)
  obtain ⟨a3,e3,_,_⟩:=DataW.trod_int Tryz.underlying3 (key 3 3 c3 y3 (hg 3 _ rfl) u3 rfl)
  obtain ⟨a4,e4,_,_⟩:=DataW.trod_int Tryz.underlying3 (key 4 3 c4 y4 (hg 4 _ rfl) u3 rfl)
  obtain ⟨a5,e5,_,_⟩:=DataW.trod_int Tryz.underlying3 (key 5 3 c5 y5 (hg 5 _ rfl) u3 rfl)
  obtain ⟨ts,tz,tc,e6,h6,_⟩:=yB7 Tryz.underlying22 Tryz.underlying2 u6 (key 6 22 c6 y6 (hg 6 _ rfl) us rfl)
  obtain ⟨a7,e7,_,_⟩:=DataW.trod_int Tryz.underlying3 (key 7 3 c7 y7 (hg 7 _ rfl) u3 rfl)
  obtain ⟨a8,e8,_,_⟩:=DataW.trod_int Tryz.underlying3 (key 8 3 c8 y8 (hg 8 _ rfl) u3 rfl)
  simp only [List.cons.injEq,and_true] at e0 e1 e2 e3 e4 e5 e7 e8
  subst e0 e1 e2 e3 e4 e5 e7 e8
  subst e6
  exact ⟨cfN a0 a1 a2 a3 a4 a5 a7 a8,ts,tz,tc,by rw [hca];rfl,h6⟩
end
section
open Go.ChangeShapes Go.WideShapes Go.ChangeAt Go.RowKit
open Go.ChangeMaps (open_string shut_string)
theorem zW5:laidOutB Tryz.prog=true:=by kernel_rfl
theorem zM4 (H:Type) (enc:TypeId×Value->H) (W:World) (base:Nat) (args:Array Value) (ds gs:List (DataW H)) (before:List MemPlace)
  (hval:∀ (j:Nat) t v,Tryz.f3.params[j]?=some t->args[j]?=some v->Value.okWide Tryz.prog W .any base t v)
  (hW:DataW.Whole enc Tryz.prog Tryz.f3.params.toList Rows.partHoldsSpec.vars false W args.toList ds gs before) (hL:laidMetH Tryz.prog Rows.partHoldsRow.laid W) :
  Calls Tryz.prog 3 args W fun e W'=>∃ v,e=.returned v/\Rows.partHoldsSpec.post enc Tryz.prog Tryz.f3 false true false false W args v W':=by
 have hW':=hW
 obtain ⟨p,q,hA0,hV,rfl,hfz,hnd⟩:=hW
 have hA:DataW.TrodAll enc Tryz.prog W 0 (fun _=>true) true Tryz.f3.params.toList args.toList ds p:=hA0
 rw [Tryz.params3] at hA hval
 obtain ⟨v0,vs0,d0,ds0,p0,q0,hargs,rfl,rfl,h0,r0⟩:=trodAll_cons hA
 obtain ⟨v1,vs1,d1,ds1,p1,q1,rfl,rfl,rfl,h1,r1⟩:=trodAll_cons r0
 obtain ⟨rfl,rfl,rfl⟩:=trodAll_nil r1
 obtain rfl:args=#[v0,v1]:=by cases args;simp_all
 obtain ⟨rfl,rfl⟩:=trodVars_none hV
 obtain ⟨a0,rfl,rfl,rfl,w0⟩:=open_string Tryz.underlying9 (hval 0 9 v0 rfl rfl) h0
 have h1k:=h1
 obtain ⟨c,ts,tz,tc,rfl,hts⟩:=yh9 (hval 1 24 v1 rfl rfl) h1
 clear hA0
 simp only [List.append_nil] at hW'
 have hlt1:∀ y∈p1,y.block<W.heap.size:=fun y hy=>hW'.lt y (by simp [hy])
 refine (yF0 a0 c ts tz tc W (zM3 hL) hts).mono fun e W' ⟨he,hg⟩=>?_
 subst he
 have bel:Below W.heap.size W W':=hg
 refine ⟨_,rfl,_,_,_,[],[]++(p1++[]),[],hW',?_,?_,rfl,bel.frame _,fun h=>by cases h⟩
 ·exact trodAll_cons_mk (shut_bool Tryz.underlying4 _) trodAll_mk0
 exact trodAll_cons_mk (shut_string Tryz.underlying9 w0) (trodAll_cons_mk (Below.trod zW5 (by kernel_rfl) (of_decide_eq_true (by kernel_rfl)) h1k bel hlt1) trodAll_mk0)
theorem ys7 (os:Os) {H:Type} (enc:TypeId×Value->H):∃ places,DataW.whole enc Tryz.prog ((World.doorLaid Tryz.prog 4000 os).forCall (fun _ _=>0) ⟨#[],#[.string ⟨#[]⟩,.agg #[.int .i64 0,.int .i64 0,.int .i64 0,.int .i64 0,.int .i64 0,.int .i64 0,.slice none 0 0,.int .i64 0,.int .i64 0]],[]⟩).memory Tryz.f3.params.toList Rows.partHoldsSpec.vars false (#[Value.string ⟨#[]⟩,.agg #[.int .i64 0,.int .i64 0,.int .i64 0,.int .i64 0,.int .i64 0,.int .i64 0,.slice none 0 0,.int .i64 0,.int .i64 0]]).toList 12=some ([.lit (.string []),.agg [.lit (.int .i64 0),.lit (.int .i64 0),.lit (.int .i64 0),.lit (.int .i64 0),.lit (.int .i64 0),.lit (.int .i64 0),.nil,.lit (.int .i64 0),.lit (.int .i64 0)]],[],places) :=
 ⟨[],by kernel_rfl⟩
theorem yi0 (os:Os) (started:os.Started) (H:Type) (enc:TypeId×Value->H) (F:Stop.Interp) :
  ReturnsInHanded {} Tryz.checked os 3 .any ((OpenSpec.ofChange Rows.partHoldsSpec).preRow enc Tryz.prog Tryz.f3 Rows.partHoldsRow.domain false Rows.partHoldsRow.laid) (((OpenSpec.ofChange Rows.partHoldsSpec).at F).post enc Tryz.prog Tryz.f3 false true false false):=by
 obtain ⟨places,hx⟩:=ys7 os enc
 refine returnsInHanded_of_row (C:=Tryz.checked) (s:=OpenSpec.ofChange Rows.partHoldsSpec) own started (by kernel_rfl) Tryz.func3
  (witness_row_atRef (enc:=enc) (C:=Tryz.checked) false (World.doorLaid Tryz.prog 4000 os) #[.string ⟨#[]⟩,.agg #[.int .i64 0,.int .i64 0,.int .i64 0,.int .i64 0,.int .i64 0,.int .i64 0,.slice none 0 0,.int .i64 0,.int .i64 0]] rfl (by kernel_rfl) (by kernel_rfl) (by kernel_rfl)
   (OpenSpec.preRow_of_cond 12 hx (by kernel_rfl) (fun k hk=>by cases hk) (by kernel_rfl) (ys4 os _))) ?_
 intro W base args ds gs before hval hW _ _ hk hL _ _
 exact zM4 H enc W base args ds gs before hval hW hL
theorem yB8:Rows.PartHoldsSaid :=
 OpenClaim.holds_of_cond 3 Tryz.f3 rfl rfl rfl rfl rfl rfl rfl ⟨rfl,rfl,rfl,rfl,rfl⟩ rfl rfl rfl rfl rfl (by kernel_rfl) Tryz.func3 (by kernel_rfl)
  (of_decide_eq_true (by kernel_rfl)) (by unfold Func.isWrapper;first | (rw [if_pos (by decide +kernel)];kernel_rfl) | (rw [if_neg (by decide +kernel)];exact ⟨rfl,rfl⟩))
  (fun os started H enc _ F=>by rw [OpenClaim.pre_eq_preRow];exact yi0 os started H enc F)
theorem ys8 (f:FuncId) (fn:Func) (hf:Tryz.pinned.checked.prog.funcNamed "winnow/winnowlaw20.PartHolds" = some f) (hfn:Tryz.pinned.checked.prog.funcs[f]?=some fn) :
  true=Tryz.pinned.checked.prog.looks []/\∀ (j:Nat) t,fn.params[j]?=some t->Tryz.pinned.checked.prog.wantsStandIn t=false:=by
 obtain rfl:f=3:=Option.some.inj ((show Tryz.prog.funcNamed "winnow/winnowlaw20.PartHolds" = some 3 by kernel_rfl).symm.trans hf) |>.symm
 obtain rfl:fn=Tryz.f3:=(Option.some.inj (Tryz.func3.symm.trans hfn)).symm
 refine ⟨by kernel_rfl,fun j t ht=>?_⟩
 rw [Tryz.params3] at ht
 have hm:t∈[9,24]:=by simpa using Array.mem_of_getElem? ht
 have hall:([9,24].all fun u => !Tryz.prog.wantsStandIn u)=true:=by kernel_rfl
 exact (show Tryz.prog.wantsStandIn t=false by simpa using List.all_eq_true.1 hall t hm)
theorem partHolds_card:Rows.PartHoldsCardSaid :=
 Claim7.holds_tied_plain_at .later [] _ _ _ _ yB8 (fun _ h=>by cases h) (by kernel_rfl) (fun _ h=>by cases h) partHolds_row_tie rfl ⟨rfl,rfl⟩ (by kernel_rfl) rfl ys8 (by kernel_rfl)
end
end Go.Proofs.YtbneneijdgcccaaGreatDoor
