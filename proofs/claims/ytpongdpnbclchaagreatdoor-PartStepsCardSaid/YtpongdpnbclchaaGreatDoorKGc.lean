import Derived.Deep.CutRange
import Derived.Test.YtpongdpnbclchaaGreatDoorKGm
set_option linter.all false
set_option maxRecDepth 100000
namespace Go.Proofs.YtpongdpnbclchaaGreatDoor
variable{B g n:Nat}{e:TypeId}{v:Value}{w:World}{xs:List Value}
open Go.RowKit
def wg4(H i:Int)(t:Tok):Tok:=if t.1=true then EX else if (t.2.1.length:Int)<H then (false,t.2.1++[i],t.2.2) else (false,t.2.1,t.2.2)
theorem AA.set3{hv lv:Value}{t:Tok}(h:AA w B hv lv t)(hg:g<B)(a b c:Value):AA (((w.setCell (aD g 0) a).setCell (aD g 1) b).setCell (aD g 2) c) B hv lv t:=⟨zf6 h.hist hg a b c,zf6 h.loops hg a b c⟩
theorem zj4(w:World){k:Nat}(hne:k≠g)(a b c:Value):(((w.setCell (aD g 0) a).setCell (aD g 1) b).setCell (aD g 2) c).heap[k]?=w.heap[k]?:=by rw[Below.heap_setCell _ _ _ _ hne,Below.heap_setCell _ _ _ _ hne,Below.heap_setCell _ _ _ _ hne]
theorem Ok.set3{w0:World}(h:Ok w0 w)(hg:w0.heap.size<=g)(a b c:Value):Ok w0 (((w.setCell (aD g 0) a).setCell (aD g 1) b).setCell (aD g 2) c):=((h.set hg _).set hg _).set hg _
theorem zf9{size:Nat}(h:w.ownsRow B e size v n xs):∀g,v.ownBlock=some g->∃c fz,w.heap[g]?=some (.cells c e fz):=by
 intro g hg;rcases h.2 with ⟨rfl,_⟩ | ⟨g',cap,cur,rfl,_,hgg,_⟩
 ·cases hg
 have e1:g'=g:=Option.some.inj hg;subst e1;exact⟨_,_,hgg⟩
theorem zF3(w:World)(g:Nat)(a b c:Value):w.heap.size<=(((w.setCell (aD g 0) a).setCell (aD g 1) b).setCell (aD g 2) c).heap.size :=
 Below.size (Below.setCell (Below.setCell (Below.setCell (Below.refl 0 w) (zL_ _) a) (zL_ _) b) (zL_ _) c)
theorem zd6{w':World}{B':Nat}{e':TypeId}{s s' n':Nat}{v':Value}{xs':List Value}(h:w.ownsRow B e s v n xs)(h':w.ownsRow B' e' s' v' n' xs')(he:e≠e')(hg:w.grownBy w' v'.ownBlock):w'.ownsRow B e s v n xs :=
 zb4 h λb hb=>hg.block b (h.lt b hb).2 λe1=>by
  obtain⟨c1,f1,k1⟩:=zf9 h b hb;obtain⟨c2,f2,k2⟩:=zf9 h' b e1.symm;rw[k1]at k2
  injection k2 with k2
  injection k2 with _ k3
  exact he k3
theorem zo6{o:Nat}{s:Nat}(h:w.ownsRow B e s v n xs)(hg:g<B)(a:Value):(w.setCell (aD g o) a).ownsRow B e s v n xs :=
 zb4 h λk hk=>by
  have hne:k≠g:=by have:=(h.lt k hk).1;omega
  rw[Below.heap_setCell _ _ _ _ hne]
theorem zJ7(l:List Int)(i:Int):ilL (l++[i])=ilL l++[nI i]:=by simp[ilL]
set_option maxHeartbeats 8000000 in
theorem zA0(hv lv:Value)(t:Tok)(gm ge:Nat)(H i:Int)(w:World)(ht:BC w hv lv t)(hb:t.2.1.length*8+8<=140737488355328/\t.2.2.length*16<=140737488355328)(hm:w.cell? (aD gm 0)=some (nI H))(he:w.cell? (aD ge 0)=some (nI i))(lm:gm<w.heap.size)(le:ge<w.heap.size) :
  Calls Tryz.prog 60 #[.agg #[.bool t.1,hv,lv],pA gm 0,pA ge 0] w λe w'=>∃hv' lv',e=.returned (.agg #[.bool t.1,hv',lv'])/\AA w' w.heap.size hv' lv' (wg4 H i t)/\Ok w w':=by
 have HT:=hid ht;have HB:=hid hb;have HC:Hi (∀Y,Ok w Y->Y.cell? (aD gm 0)=some (nI H)/\Y.cell? (aD ge 0)=some (nI i)/\gm<Y.heap.size/\ge<Y.heap.size):=λY hY=>⟨hY.cell (p:=⟨gm,0,none⟩) lm hm,hY.cell (p:=⟨ge,0,none⟩) le he,lL_ lm hY.le,lL_ le hY.le⟩;obtain⟨_,_,ho,hc,rfl,_⟩:=ht.hist;obtain⟨_,_,lo,lc,rfl,_⟩:=ht.loops;obtain⟨m,hmm⟩:=qq (t.1);obtain⟨q,hq⟩:=qq (t.2.1.length);obtain⟨n,hn⟩:=qq (t.2.2.length);have HQ:Hi (m=t.1/\q=t.2.1.length/\n=t.2.2.length):=⟨hmm,hq,hn⟩;rw[<-hmm,<-hq,<-hn]
 have HCP:Hi (∀Y,Ok w Y->Calls Tryz.prog 32 #[.agg #[.bool m,.slice ho q hc,.slice lo n lc]] Y λe w'=>∃hv' lv',e=.returned (.agg #[.bool m,hv',lv'])/\AA w' Y.heap.size hv' lv' (cpT t)/\Ok Y w'):=λY hY=>by have:=zi2 _ _ t Y (HT.o.below hY) (by have:=HB.o;omega);rw[<-hmm,<-hq,<-hn]at this;exact this
 clear ht hb hm he lm le hmm hq hn HT;go_enter Tryz.func60,Tryz.ntmps60;go_wp2_with fail;obtain⟨W,hW⟩:=qq ((w.alloc (Obj.cells #[.bool m,.slice ho q hc,.slice lo n lc] 28)).alloc (Obj.cells #[.bool false,sZ,sZ] 28));obtain⟨gr,hgr⟩:=qq (w.heap.size+1);obtain⟨gp,hgp⟩:=qq (w.heap.size);rw[<-hW,<-hgr,<-hgp];have HK:Hi (Ok w W):=by rw[hW];exact((Ok.refl w).alloc _).alloc _
 have HP:Hi (W.heap[gp]?=some (.cells #[Value.bool m,Value.slice ho q hc,Value.slice lo n lc] 28 (0,0))):=by rw[hW,hgp];exact jj
 have HR:Hi (W.heap[gr]?=some (.cells #[Value.bool false,sZ,sZ] 28 (0,0))):=by rw[hW,hgr];exact jj
 have HG:Hi (w.heap.size<=gp/\gp<gr):=by unfold Hi;omega
 clear hW hgr hgp;refine(HCP.o W HK.o).mono ?_;rintro e w1 ⟨v1,v2,rfl,h1,h2⟩;have HT1:=hid h1;have HK1:=hid (HK.o.step h2);have HP1:Hi _:=Ok.row' h2 HP.o;have HR1:Hi _:=Ok.row' h2 HR.o;have HW1:Hi (W.heap.size<=w1.heap.size/\gp<W.heap.size/\gr<W.heap.size):=⟨Ok.le h2,za2 HP.o,za2 HR.o⟩;obtain⟨a1,b1,rfl⟩:=za0 h1.hist;obtain⟨a2,b2,rfl⟩:=za0 h1.loops;obtain⟨c0,c1,c2,c3,c4,c5⟩:=za9 HP1.o;have lgp:=za2 HP1.o;clear h1 h2;obtain⟨q1,hq1⟩:=qq ((cpT t).2.1.length);obtain⟨n1,hn1⟩:=qq ((cpT t).2.2.length);have HQ1:Hi (q1=(cpT t).2.1.length/\n1=(cpT t).2.2.length):=⟨hq1,hn1⟩;rw[<-hq1,<-hn1];rw[<-hq1,<-hn1]at HT1;clear hq1 hn1
 go_upto_region 2 with (fail)
 obtain⟨W2,hW2⟩:=qq (((w1.setCell ⟨gp,0,none⟩ (.bool m)).setCell ⟨gp,1,none⟩ (.slice a1 q1 b1)).setCell ⟨gp,2,none⟩ (.slice a2 n1 b2));rw[<-hW2];have HT2:Hi (AA W2 W.heap.size (.slice a1 q1 b1) (.slice a2 n1 b2) (cpT t)):=by rw[hW2];exact HT1.o.set3 HW1.o.2.1 _ _ _
 have HK2:Hi (Ok w W2):=by rw[hW2];exact HK1.o.set3 HG.o.1 _ _ _
 have HP2:Hi (W2.heap[gp]?=some (.cells #[Value.bool m,Value.slice a1 q1 b1,Value.slice a2 n1 b2] 28 (0,0))):=by rw[hW2];exact zd9 HP1.o _ _ _
 have HR2:Hi (W2.heap[gr]?=some (.cells #[Value.bool false,sZ,sZ] 28 (0,0))):=by rw[hW2,zj4 _ (by have:=HG.o;omega)];exact HR1.o
 have HL2:Hi (W.heap.size<=W2.heap.size):=by rw[hW2];exact Nat.le_trans HW1.o.1 (zF3 _ _ _ _ _)
 clear hW2 c0 c1 c2 c3 c4 c5 lgp HP1 HR1 HT1 HK1;obtain⟨c0,c1,c2,c3,c4,c5⟩:=za9 HP2.o;obtain⟨d0,d1,d2,d3,d4,d5⟩:=za9 HR2.o;have lgp:=za2 HP2.o;have lgr:=za2 HR2.o;obtain⟨x0,x1,x2,x3⟩:=HC.o W2 HK2.o;have hne:¬gp=gr:=by have:=HG.o;omega
 cases m with
 | true =>
  have HE:Hi (cpT t=wg4 H i t):=by unfold Hi cpT wg4;rw[if_pos HQ.o.1.symm,if_pos HQ.o.1.symm]
  go_wp2_with fail;(try simp only[Exit.inBlock,Exit.then]);refine bodyPost_ret (results_cell_row rfl _ _ gr 28 #[_,_,_] (0,0) _ rfl (zd9 HR2.o _ _ _) Tryz.underlying28 rfl CB) rfl ?_;exact⟨_,_,rfl,by rw[<-HE.o];exact(HT2.o.set3 HW1.o.2.2 _ _ _).base HK.o.le,HK2.o.set3 (by have:=HG.o;omega) _ _ _⟩
 | false =>
  have hf:¬t.1=true:=by rw[<-HQ.o.1];decide
  have HE:Hi (cpT t=t):=by unfold Hi cpT;rw[if_neg hf]
  have HQQ:Hi (q1=t.2.1.length/\n1=t.2.2.length):=by have h:=HQ1.o;rw[HE.o]at h;exact h
  have HF:Hi (t=(false,t.2.1,t.2.2)):=by
   obtain⟨b,x,y⟩:=t;cases b
   ·rfl
   exact absurd rfl hf
  by_cases hlt:(q1:Int)<H
  ·have HER:Hi (wg4 H i t=(false,t.2.1++[i],t.2.2)):=by unfold Hi wg4;rw[if_neg hf,if_pos (by rw[<-HQQ.o.1];exact hlt)]
   have HH2:Hi (W2.ownsRow W.heap.size 3 1 (.slice a1 q1 b1) q1 (ilL t.2.1)):=by have h:=HT2.o.hist;rw[HE.o,<-HQQ.o.1]at h;exact h
   have HO2:Hi (W2.ownsRow W.heap.size 45 2 (.slice a2 n1 b2) n1 (lpL t.2.2)):=by have h:=HT2.o.loops;rw[HE.o,<-HQQ.o.2]at h;exact h
   clear hf
   go_wp2_with (first|(at_builtin;refine ze4 rfl _ _ 25 3 1 8 _ rfl Tryz.underlying25 wb1 (by rfl) (by decide) (by decide) W.heap.size (.slice a1 q1 b1) q1 (ilL t.2.1) (by rfl) (World.ownsRow.alloc HH2.o _) (.slice (sA W2.heap.size 0) 1 1) 1 [nI i] (by rfl) (SL.one W2 3 [nI i] rfl (by simp[Value.oneCell'])) (by have h1:=HB.o.1;have h2:=HQQ.o.1;omega) (by have h1:=HL2.o;simp;omega) ?_;intro v9 w9 k1 k2;have HH9:=hid k1;have HO9:Hi (w9.ownsRow W.heap.size 45 2 (.slice a2 n1 b2) n1 (lpL t.2.2)):=zd6 (World.ownsRow.alloc HO2.o _) (World.ownsRow.alloc HH2.o _) (by decide) k2;have HK9:Hi (Ok w w9):=Ok.grown (HK2.o.alloc _) k2 (λb e=>by have h1:=((World.ownsRow.alloc HH2.o (Obj.cells #[nI i] 3)).lt b e).1;have h2:=HK.o.le;omega);have HB9:Hi (∀g o,g<W.heap.size->W2.heap[g]?=some o->w9.heap[g]?=some o):=(λg o hg ho=>(k2.block g (by have:=za2 ho;simp;omega) (λe=>by have h1:=((World.ownsRow.alloc HH2.o (Obj.cells #[nI i] 3)).lt g e.symm).1;omega)).trans (heap_past _ _ _ (za2 ho) ho));obtain⟨vo,vc,rfl⟩:=za0 k1;have HP9:Hi _:=HB9.o gp _ HW1.o.2.1 HP2.o;have HR9:Hi _:=HB9.o gr _ HW1.o.2.2 HR2.o;clear k1 k2 c0 c1 c2 c3 c4 c5 d0 d1 d2 d3 d4 d5 lgp lgr x0 x1 x2 x3;obtain⟨c0,c1,c2,c3,c4,c5⟩:=za9 HP9.o;obtain⟨d0,d1,d2,d3,d4,d5⟩:=za9 HR9.o;have lgp:=za2 HP9.o;have lgr:=za2 HR9.o)|fail)
   have hR:(w9.setCell (aD gp 1) (.slice vo (q1+1) vc)).heap[gr]?=_:=(Below.heap_setCell _ _ _ _ (by have h1:=HG.o;show gr≠gp;omega)).trans HR9.o;(try simp only[Exit.inBlock,Exit.then]);refine bodyPost_ret (results_cell_row rfl _ _ gr 28 #[_,_,_] (0,0) _ rfl (zd9 hR _ _ _) Tryz.underlying28 rfl CB) rfl ?_;refine⟨_,_,rfl,?_,(HK9.o.set HG.o.1 _).set3 (by have:=HG.o;omega) _ _ _⟩;rw[HER.o];refine⟨?_,?_⟩
   ·show World.ownsRow _ _ _ _ _ (t.2.1++[i]).length (ilL (t.2.1++[i]))
    rw[zJ7,List.length_append,List.length_singleton,<-HQQ.o.1];exact za7 (zf6 (zo6 HH9.o HW1.o.2.1 _) HW1.o.2.2 _ _ _) HK.o.le
   show World.ownsRow _ _ _ _ _ t.2.2.length (lpL t.2.2);rw[<-HQQ.o.2];exact za7 (zf6 (zo6 HO9.o HW1.o.2.1 _) HW1.o.2.2 _ _ _) HK.o.le
  have HER:Hi (wg4 H i t=t):=by unfold Hi wg4;rw[if_neg hf,if_neg (by rw[<-HQQ.o.1];exact hlt)];exact HF.o.symm
  clear hf;go_wp2_with fail;(try simp only[Exit.inBlock,Exit.then]);refine bodyPost_ret (results_cell_row rfl _ _ gr 28 #[_,_,_] (0,0) _ rfl (zd9 HR2.o _ _ _) Tryz.underlying28 rfl CB) rfl ?_;exact⟨_,_,rfl,by rw[HER.o,<-HE.o];exact(HT2.o.set3 HW1.o.2.2 _ _ _).base HK.o.le,HK2.o.set3 (by have:=HG.o;omega) _ _ _⟩
end Go.Proofs.YtpongdpnbclchaaGreatDoor
