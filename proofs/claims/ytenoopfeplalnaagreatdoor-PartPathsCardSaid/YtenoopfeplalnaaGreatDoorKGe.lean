import Derived.Deep.CutRange
import Derived.Test.YtenoopfeplalnaaGreatDoorKGb
set_option maxHeartbeats 8000000
set_option linter.all false
namespace Go.Proofs.YtenoopfeplalnaaGreatDoor
section
open Go.RowKit
def remT (H i:Int) (t:Tok):Tok:=if t.1=true then tokM else if (t.2.1.length:Int)<H then (false,t.2.1++[i],t.2.2) else (false,t.2.1,t.2.2)
theorem TokOwn.set3 {w:World} {B g:Nat} {hv lv:Value} {t:Tok} (h:TokOwn w B hv lv t) (hg:g<B) (a b c:Value):TokOwn (((w.setCell ⟨g,0,none⟩ a).setCell ⟨g,1,none⟩ b).setCell ⟨g,2,none⟩ c) B hv lv t:=⟨zf6 h.hist hg a b c,zf6 h.loops hg a b c⟩
theorem zj3 (w:World) {g k:Nat} (hne:k≠g) (a b c:Value):(((w.setCell ⟨g,0,none⟩ a).setCell ⟨g,1,none⟩ b).setCell ⟨g,2,none⟩ c).heap[k]?=w.heap[k]?:=by
 rw [Below.heap_setCell _ _ _ _ hne,Below.heap_setCell _ _ _ _ hne,Below.heap_setCell _ _ _ _ hne]
theorem Ok.set3 {w0 w:World} {g:Nat} (h:Ok w0 w) (hg:w0.heap.size<=g) (a b c:Value):Ok w0 (((w.setCell ⟨g,0,none⟩ a).setCell ⟨g,1,none⟩ b).setCell ⟨g,2,none⟩ c):=((h.set hg _).set hg _).set hg _
theorem zg7 {w:World} {B:Nat} {e:TypeId} {size:Nat} {v:Value} {n:Nat} {xs:List Value} (h:w.ownsRow B e size v n xs):∀ g,v.ownBlock=some g->∃ c fz,w.heap[g]?=some (.cells c e fz):=by
 intro g hg
 rcases h.2 with ⟨rfl,_⟩ | ⟨g',cap,cur,rfl,_,hgg,_⟩
 ·cases hg
 ·have e1:g'=g:=Option.some.inj hg
  subst e1
  exact ⟨_,_,hgg⟩
theorem zE4 (w:World) (g:Nat) (a b c:Value):w.heap.size<=(((w.setCell ⟨g,0,none⟩ a).setCell ⟨g,1,none⟩ b).setCell ⟨g,2,none⟩ c).heap.size :=
 Below.size (Below.setCell (Below.setCell (Below.setCell (Below.refl 0 w) (Nat.zero_le _) a) (Nat.zero_le _) b) (Nat.zero_le _) c)
theorem zd6 {w w':World} {B B':Nat} {e e':TypeId} {s s' n n':Nat} {v v':Value} {xs xs':List Value} (h:w.ownsRow B e s v n xs) (h':w.ownsRow B' e' s' v' n' xs') (he:e≠e') (hg:w.grownBy w' v'.ownBlock):w'.ownsRow B e s v n xs :=
 zb4 h fun b hb=>hg.block b (h.lt b hb).2 fun e1=>by
  obtain ⟨c1,f1,k1⟩:=zg7 h b hb
  obtain ⟨c2,f2,k2⟩:=zg7 h' b e1.symm
  rw [k1] at k2
  injection k2 with k2
  injection k2 with _ k3
  exact he k3
theorem zo2 {w:World} {B g o:Nat} {e:TypeId} {s n:Nat} {v:Value} {xs:List Value} (h:w.ownsRow B e s v n xs) (hg:g<B) (a:Value):(w.setCell ⟨g,o,none⟩ a).ownsRow B e s v n xs :=
 zb4 h fun k hk=>by
  have hne:k≠g:=by have:=(h.lt k hk).1;omega
  rw [Below.heap_setCell _ _ _ _ hne]
theorem zs4 (l:List Int) (i:Int):ilL (l++[i])=ilL l++[.int .i64 i]:=by simp [ilL]
set_option maxRecDepth 100000 in
theorem zz5 (hv lv:Value) (t:Tok) (gm ge:Nat) (H i:Int) (w:World) (ht:TokIs w hv lv t) (hb:t.2.1.length*8+8<=140737488355328/\t.2.2.length*16<=140737488355328) (hm:w.cell? ⟨gm,0,none⟩=some (.int .i64 H)) (he:w.cell? ⟨ge,0,none⟩=some (.int .i64 i)) (lm:gm<w.heap.size) (le:ge<w.heap.size) :
  Calls Tryz.prog 121 #[.agg #[.bool t.1,hv,lv],.pointer (some ⟨gm,0,none⟩),.pointer (some ⟨ge,0,none⟩)] w fun e w'=>∃ hv' lv',e=.returned (.agg #[.bool t.1,hv',lv'])/\TokOwn w' w.heap.size hv' lv' (remT H i t)/\Ok w w':=by
 have HT:=hid ht
 have HB:=hid hb
 have HC:Hid (∀ Y,Ok w Y->Y.cell? ⟨gm,0,none⟩=some (.int .i64 H)/\Y.cell? ⟨ge,0,none⟩=some (.int .i64 i)/\gm<Y.heap.size/\ge<Y.heap.size):=fun Y hY=>⟨hY.cell (p:=⟨gm,0,none⟩) lm hm,hY.cell (p:=⟨ge,0,none⟩) le he,Nat.lt_of_lt_of_le lm hY.le,Nat.lt_of_lt_of_le le hY.le⟩
 obtain ⟨_,_,ho,hc,rfl,_⟩:=ht.hist
 obtain ⟨_,_,lo,lc,rfl,_⟩:=ht.loops
 obtain ⟨m,hmm⟩:∃ m,m=t.1:=⟨_,rfl⟩
 obtain ⟨q,hq⟩:∃ q,q=t.2.1.length:=⟨_,rfl⟩
 obtain ⟨n,hn⟩:∃ n,n=t.2.2.length:=⟨_,rfl⟩
 have HQ:Hid (m=t.1/\q=t.2.1.length/\n=t.2.2.length):=⟨hmm,hq,hn⟩
 rw [<-hmm,<-hq,<-hn]
 have HCP:Hid (∀ Y,Ok w Y->Calls Tryz.prog 82 #[.agg #[.bool m,.slice ho q hc,.slice lo n lc]] Y fun e w'=>∃ hv' lv',e=.returned (.agg #[.bool m,hv',lv'])/\TokOwn w' Y.heap.size hv' lv' (cpT t)/\Ok Y w'):=fun Y hY=>by
  have:=zi2 _ _ t Y (HT.out.below hY) (by have:=HB.out;omega)
  rw [<-hmm,<-hq,<-hn] at this
  exact this
 clear ht hb hm he lm le hmm hq hn HT
 go_enter Tryz.func121,Tryz.ntmps121
 go_wp2_with fail
 obtain ⟨W,hW⟩:∃ z,z=(w.alloc (Obj.cells #[.bool m,.slice ho q hc,.slice lo n lc] 54)).alloc (Obj.cells #[.bool false,.slice none 0 0,.slice none 0 0] 54):=⟨_,rfl⟩
 obtain ⟨gr,hgr⟩:∃ z,z=w.heap.size+1:=⟨_,rfl⟩
 obtain ⟨gp,hgp⟩:∃ z,z=w.heap.size:=⟨_,rfl⟩
 rw [<-hW,<-hgr,<-hgp]
 have HK:Hid (Ok w W):=by unfold Hid;rw [hW];exact ((Ok.refl w).alloc _).alloc _
 have HP:Hid (W.heap[gp]?=some (.cells #[Value.bool m,Value.slice ho q hc,Value.slice lo n lc] 54 (0,0))):=by unfold Hid;rw [hW,hgp];exact (by repeat (first | (refine heap_at _ _ _ ?hx; case hx => (first | (simp; done) | (simp; omega))) | (refine heap_past _ _ _ ?hy ?_; case hy => (first | (simp; done) | (simp; omega))) | fail))
 have HR:Hid (W.heap[gr]?=some (.cells #[Value.bool false,Value.slice none 0 0,Value.slice none 0 0] 54 (0,0))):=by unfold Hid;rw [hW,hgr];exact (by repeat (first | (refine heap_at _ _ _ ?hx; case hx => (first | (simp; done) | (simp; omega))) | (refine heap_past _ _ _ ?hy ?_; case hy => (first | (simp; done) | (simp; omega))) | fail))
 have HG:Hid (w.heap.size<=gp/\gp<gr):=by unfold Hid;omega
 clear hW hgr hgp
 refine (HCP.out W HK.out).mono ?_
 rintro e w1 ⟨v1,v2,rfl,h1,h2⟩
 have HT1:Hid (TokOwn w1 W.heap.size v1 v2 (cpT t)):=h1
 have HK1:Hid (Ok w w1):=HK.out.step h2
 have HP1:Hid _:=Ok.row' h2 HP.out
 have HR1:Hid _:=Ok.row' h2 HR.out
 have HW1:Hid (W.heap.size<=w1.heap.size/\gp<W.heap.size/\gr<W.heap.size):=⟨Ok.le h2,za2 HP.out,za2 HR.out⟩
 obtain ⟨a1,b1,rfl⟩:=za0 h1.hist
 obtain ⟨a2,b2,rfl⟩:=za0 h1.loops
 obtain ⟨c0,c1,c2,c3,c4,c5⟩:=zb2 HP1.out
 have lgp:=za2 HP1.out
 clear h1 h2
 obtain ⟨q1,hq1⟩:∃ z,z=(cpT t).2.1.length:=⟨_,rfl⟩
 obtain ⟨n1,hn1⟩:∃ z,z=(cpT t).2.2.length:=⟨_,rfl⟩
 have HQ1:Hid (q1=(cpT t).2.1.length/\n1=(cpT t).2.2.length):=⟨hq1,hn1⟩
 rw [<-hq1,<-hn1]
 rw [<-hq1,<-hn1] at HT1
 clear hq1 hn1
 go_upto_region 2 with (fail)
 obtain ⟨W2,hW2⟩:∃ z,z=((w1.setCell ⟨gp,0,none⟩ (.bool m)).setCell ⟨gp,1,none⟩ (.slice a1 q1 b1)).setCell ⟨gp,2,none⟩ (.slice a2 n1 b2):=⟨_,rfl⟩
 rw [<-hW2]
 have HT2:Hid (TokOwn W2 W.heap.size (.slice a1 q1 b1) (.slice a2 n1 b2) (cpT t)):=by unfold Hid;rw [hW2];exact HT1.out.set3 HW1.out.2.1 _ _ _
 have HK2:Hid (Ok w W2):=by unfold Hid;rw [hW2];exact HK1.out.set3 HG.out.1 _ _ _
 have HP2:Hid (W2.heap[gp]?=some (.cells #[Value.bool m,Value.slice a1 q1 b1,Value.slice a2 n1 b2] 54 (0,0))):=by unfold Hid;rw [hW2];exact zd9 HP1.out _ _ _
 have HR2:Hid (W2.heap[gr]?=some (.cells #[Value.bool false,Value.slice none 0 0,Value.slice none 0 0] 54 (0,0))):=by unfold Hid;rw [hW2,zj3 _ (by have:=HG.out;omega)];exact HR1.out
 have HL2:Hid (W.heap.size<=W2.heap.size):=by unfold Hid;rw [hW2];exact Nat.le_trans HW1.out.1 (zE4 _ _ _ _ _)
 clear hW2 c0 c1 c2 c3 c4 c5 lgp HP1 HR1 HT1 HK1
 obtain ⟨c0,c1,c2,c3,c4,c5⟩:=zb2 HP2.out
 obtain ⟨d0,d1,d2,d3,d4,d5⟩:=zb2 HR2.out
 have lgp:=za2 HP2.out
 have lgr:=za2 HR2.out
 obtain ⟨x0,x1,x2,x3⟩:=HC.out W2 HK2.out
 have hne:¬gp=gr:=by have:=HG.out;omega
 cases m with
 | true =>
  have HE:Hid (cpT t=remT H i t):=by unfold Hid cpT remT;rw [if_pos HQ.out.1.symm,if_pos HQ.out.1.symm]
  go_wp2_with fail
  (try simp only [Exit.inBlock,Exit.then])
  refine bodyPost_ret (results_cell_row rfl _ _ gr 54 #[_,_,_] (0,0) _ rfl (zd9 HR2.out _ _ _) Tryz.underlying54 rfl infTk) rfl ?_
  exact ⟨_,_,rfl,by rw [<-HE.out];exact (HT2.out.set3 HW1.out.2.2 _ _ _).base HK.out.le,HK2.out.set3 (by have:=HG.out;omega) _ _ _⟩
 | false =>
  have hf:¬t.1=true:=by rw [<-HQ.out.1];decide
  have HE:Hid (cpT t=t):=by unfold Hid cpT;rw [if_neg hf]
  have HQQ:Hid (q1=t.2.1.length/\n1=t.2.2.length):=by have h:=HQ1.out;rw [HE.out] at h;exact h
  have HF:Hid (t=(false,t.2.1,t.2.2)):=by
   obtain ⟨b,x,y⟩:=t
   cases b
   ·rfl
   ·exact absurd rfl hf
  by_cases hlt:(q1:Int)<H
  ·have HER:Hid (remT H i t=(false,t.2.1++[i],t.2.2)):=by unfold Hid remT;rw [if_neg hf,if_pos (by rw [<-HQQ.out.1];exact hlt)]
   have HH2:Hid (W2.ownsRow W.heap.size 3 1 (.slice a1 q1 b1) q1 (ilL t.2.1)):=by have h:=HT2.out.hist;rw [HE.out,<-HQQ.out.1] at h;exact h
   have HO2:Hid (W2.ownsRow W.heap.size 214 2 (.slice a2 n1 b2) n1 (lpL t.2.2)):=by have h:=HT2.out.loops;rw [HE.out,<-HQQ.out.2] at h;exact h
   clear hf
   go_wp2_with (first | (at_builtin;refine zd0 rfl _ _ 25 3 1 8 _ rfl Tryz.underlying25 infIn (by rfl) (by decide) (by decide) W.heap.size (.slice a1 q1 b1) q1 (ilL t.2.1) (by rfl) (World.ownsRow.alloc HH2.out _) (.slice (some ⟨W2.heap.size,0,none⟩) 1 1) 1 [.int .i64 i] (by rfl) (SL.one W2 3 [.int .i64 i] rfl (by simp [Value.oneCell'])) (by have h1:=HB.out.1;have h2:=HQQ.out.1;omega) (by have h1:=HL2.out;simp;omega) ?_;intro v9 w9 k1 k2;have HH9:Hid (w9.ownsRow W.heap.size 3 1 v9 (q1+1) (ilL t.2.1++[.int .i64 i])):=k1;have HO9:Hid (w9.ownsRow W.heap.size 214 2 (.slice a2 n1 b2) n1 (lpL t.2.2)):=zd6 (World.ownsRow.alloc HO2.out _) (World.ownsRow.alloc HH2.out _) (by decide) k2;have HK9:Hid (Ok w w9):=Ok.grown (HK2.out.alloc _) k2 (fun b e=>by have h1:=((World.ownsRow.alloc HH2.out (Obj.cells #[.int .i64 i] 3)).lt b e).1;have h2:=HK.out.le;omega);have HB9:Hid (∀ g o,g<W.heap.size->W2.heap[g]?=some o->w9.heap[g]?=some o):=(fun g o hg ho=>(k2.block g (by have:=za2 ho;simp;omega) (fun e=>by have h1:=((World.ownsRow.alloc HH2.out (Obj.cells #[.int .i64 i] 3)).lt g e.symm).1;omega)).trans (heap_past _ _ _ (za2 ho) ho));obtain ⟨vo,vc,rfl⟩:=za0 k1;have HP9:Hid _:=HB9.out gp _ HW1.out.2.1 HP2.out;have HR9:Hid _:=HB9.out gr _ HW1.out.2.2 HR2.out;clear k1 k2 c0 c1 c2 c3 c4 c5 d0 d1 d2 d3 d4 d5 lgp lgr x0 x1 x2 x3;obtain ⟨c0,c1,c2,c3,c4,c5⟩:=zb2 HP9.out;obtain ⟨d0,d1,d2,d3,d4,d5⟩:=zb2 HR9.out;have lgp:=za2 HP9.out;have lgr:=za2 HR9.out) | fail)
   have hR:(w9.setCell ⟨gp,1,none⟩ (.slice vo (q1+1) vc)).heap[gr]?=_:=(Below.heap_setCell _ _ _ _ (by have h1:=HG.out;show gr≠gp;omega)).trans HR9.out
   (try simp only [Exit.inBlock,Exit.then])
   refine bodyPost_ret (results_cell_row rfl _ _ gr 54 #[_,_,_] (0,0) _ rfl (zd9 hR _ _ _) Tryz.underlying54 rfl infTk) rfl ?_
   refine ⟨_,_,rfl,?_,(HK9.out.set HG.out.1 _).set3 (by have:=HG.out;omega) _ _ _⟩
   rw [HER.out]
   refine ⟨?_,?_⟩
   ·show World.ownsRow _ _ _ _ _ (t.2.1++[i]).length (ilL (t.2.1++[i]))
    rw [zs4,List.length_append,List.length_singleton,<-HQQ.out.1]
    exact za8 (zf6 (zo2 HH9.out HW1.out.2.1 _) HW1.out.2.2 _ _ _) HK.out.le
   ·show World.ownsRow _ _ _ _ _ t.2.2.length (lpL t.2.2)
    rw [<-HQQ.out.2]
    exact za8 (zf6 (zo2 HO9.out HW1.out.2.1 _) HW1.out.2.2 _ _ _) HK.out.le
  ·have HER:Hid (remT H i t=t):=by unfold Hid remT;rw [if_neg hf,if_neg (by rw [<-HQQ.out.1];exact hlt)];exact HF.out.symm
   clear hf
   go_wp2_with fail
   (try simp only [Exit.inBlock,Exit.then])
   refine bodyPost_ret (results_cell_row rfl _ _ gr 54 #[_,_,_] (0,0) _ rfl (zd9 HR2.out _ _ _) Tryz.underlying54 rfl infTk) rfl ?_
   exact ⟨_,_,rfl,by rw [HER.out,<-HE.out];exact (HT2.out.set3 HW1.out.2.2 _ _ _).base HK.out.le,HK2.out.set3 (by have:=HG.out;omega) _ _ _⟩
end
section
open Go.RowKit
def leaT (h:Int) (t:Tok):Tok:=cpT (if inLp t h=true then (t.1,t.2.1,t.2.2.dropLast) else t)
theorem zZ8 (l:List (Int×Int)):∀ (j:Nat) (u:Value),(lpL l.dropLast)[j]?=some u->(lpL l)[j]?=some u:=by
 intro j u hj
 by_cases c:l=[]
 ·subst c;exact hj
 ·have e:lpL l=lpL l.dropLast++lpL [l.getLast c]:=by
   conv=>lhs;rw [<-List.dropLast_concat_getLast c]
   unfold lpL
   rw [List.flatMap_append]
  obtain ⟨hl,_⟩:=List.getElem?_eq_some_iff.1 hj
  rw [e,List.getElem?_append_left hl]
  exact hj
theorem yw7 {w:World} {g:Nat} {u v x:Value} {t:TypeId} (hg:w.heap[g]?=some (.cells #[u,v,x] t (0,0))) (c:Value):(w.setCell ⟨g,2,none⟩ c).heap[g]?=some (.cells #[u,v,c] t (0,0)):=by
 have h3:=heap_setCell_same w g 2 _ t c hg
 simpa using h3
set_option maxRecDepth 100000 in
theorem zS0 (hv lv:Value) (t:Tok) (gh:Nat) (h:Int) (w:World) (ht:TokIs w hv lv t) (hb:t.2.1.length*8<=140737488355328/\t.2.2.length*16<=140737488355328) (hm:w.cell? ⟨gh,0,none⟩=some (.int .i64 h)) (lm:gh<w.heap.size) :
  Calls Tryz.prog 122 #[.agg #[.bool t.1,hv,lv],.pointer (some ⟨gh,0,none⟩)] w fun e w'=>∃ hv' lv',e=.returned (.agg #[.bool t.1,hv',lv'])/\TokOwn w' w.heap.size hv' lv' (leaT h t)/\Ok w w':=by
 have HT:=hid ht
 have HB:=hid hb
 obtain ⟨_,_,ho,hc,rfl,_⟩:=ht.hist
 obtain ⟨_,_,lo,lc,rfl,hl2⟩:=ht.loops
 have hcap:t.2.2.length<=lc:=ht.cap _ _ _ rfl
 obtain ⟨m,hmm⟩:∃ m,m=t.1:=⟨_,rfl⟩
 obtain ⟨q,hq⟩:∃ q,q=t.2.1.length:=⟨_,rfl⟩
 obtain ⟨n,hn⟩:∃ n,n=t.2.2.length:=⟨_,rfl⟩
 have HQ:Hid (m=t.1/\q=t.2.1.length/\n=t.2.2.length):=⟨hmm,hq,hn⟩
 have HCAP:Hid (n<=lc):=by unfold Hid;omega
 rw [<-hmm,<-hq,<-hn]
 have HW:Hid (∀ Y,Ok w Y->Calls Tryz.prog 123 #[.agg #[.bool m,.slice ho q hc,.slice lo n lc],.int .i64 h] Y fun e w'=>e=.returned (.bool (inLp t h))/\Ok Y w'):=fun Y hY=>by
  have:=zw6 m _ _ t h Y (HT.out.below hY) (by have:=HB.out.2;omega)
  rw [<-hq,<-hn] at this
  exact this
 have HCP:Hid (∀ Y,Ok w Y->Calls Tryz.prog 82 #[.agg #[.bool m,.slice ho q hc,.slice lo n lc]] Y fun e w'=>∃ hv' lv',e=.returned (.agg #[.bool m,hv',lv'])/\TokOwn w' Y.heap.size hv' lv' (cpT t)/\Ok Y w'):=fun Y hY=>by
  have:=zi2 _ _ t Y (HT.out.below hY) HB.out
  rw [<-hmm,<-hq,<-hn] at this
  exact this
 have HCQ:Hid (∀ Y k,Ok w Y->n=k+1->Calls Tryz.prog 82 #[.agg #[.bool m,.slice ho q hc,.slice lo k lc]] Y fun e w'=>∃ hv' lv',e=.returned (.agg #[.bool m,hv',lv'])/\TokOwn w' Y.heap.size hv' lv' (cpT (t.1,t.2.1,t.2.2.dropLast))/\Ok Y w'):=fun Y k hY hk=>by
  have hkl:t.2.2.dropLast.length=k:=by rw [List.length_dropLast];omega
  have h3:SL Y 2 (.slice lo k lc) t.2.2.dropLast.length (lpL t.2.2.dropLast):=by
   obtain ⟨_,_,ao,cc,e,h4⟩:=(HT.out.below hY).loops
   injection e with e1 _ e3
   subst e1 e3
   refine ⟨zz3 _,zZ6 _,_,_,by rw [hkl],?_⟩
   obtain ⟨b,o,e5,e6,e7⟩:=h4.resolve_left (by omega)
   exact .inr ⟨b,o,e5,e6,fun j u hj=>e7 j u (zZ8 _ j u hj)⟩
  rw [hmm]
  exact zi2 (.slice ho q hc) (.slice lo k lc) (t.1,t.2.1,t.2.2.dropLast) Y ⟨by rw [hq];exact (HT.out.below hY).hist,h3,fun ao mm c e=>by injection e with _ e2 e3;have:=HCAP.out;omega⟩ ⟨HB.out.1,by show t.2.2.dropLast.length*16<=_;rw [hkl];have:=HB.out.2;omega⟩
 have HC:Hid (∀ Y,Ok w Y->Y.cell? ⟨gh,0,none⟩=some (.int .i64 h)/\gh<Y.heap.size):=fun Y hY=>⟨hY.cell (p:=⟨gh,0,none⟩) lm hm,Nat.lt_of_lt_of_le lm hY.le⟩
 clear ht hb hm lm hmm hq hn hl2 hcap
 go_enter Tryz.func122,Tryz.ntmps122
 obtain ⟨x0,x1⟩:=HC.out w (Ok.refl w)
 go_wp2_with fail
 obtain ⟨W,hW⟩:∃ z,z=(w.alloc (Obj.cells #[.bool m,.slice ho q hc,.slice lo n lc] 54)).alloc (Obj.cells #[.bool false,.slice none 0 0,.slice none 0 0] 54):=⟨_,rfl⟩
 obtain ⟨gr,hgr⟩:∃ z,z=w.heap.size+1:=⟨_,rfl⟩
 obtain ⟨gp,hgp⟩:∃ z,z=w.heap.size:=⟨_,rfl⟩
 rw [<-hW,<-hgr,<-hgp]
 have HK:Hid (Ok w W):=by unfold Hid;rw [hW];exact ((Ok.refl w).alloc _).alloc _
 have HP:Hid (W.heap[gp]?=some (.cells #[Value.bool m,Value.slice ho q hc,Value.slice lo n lc] 54 (0,0))):=by unfold Hid;rw [hW,hgp];exact (by repeat (first | (refine heap_at _ _ _ ?hx; case hx => (first | (simp; done) | (simp; omega))) | (refine heap_past _ _ _ ?hy ?_; case hy => (first | (simp; done) | (simp; omega))) | fail))
 have HR:Hid (W.heap[gr]?=some (.cells #[Value.bool false,Value.slice none 0 0,Value.slice none 0 0] 54 (0,0))):=by unfold Hid;rw [hW,hgr];exact (by repeat (first | (refine heap_at _ _ _ ?hx; case hx => (first | (simp; done) | (simp; omega))) | (refine heap_past _ _ _ ?hy ?_; case hy => (first | (simp; done) | (simp; omega))) | fail))
 have HG:Hid (w.heap.size<=gp/\gp<gr):=by unfold Hid;omega
 clear hW hgr hgp x0 x1
 refine (HW.out W HK.out).mono ?_
 rintro e w1 ⟨rfl,h2⟩
 have HK1:Hid (Ok w w1):=HK.out.step h2
 have HP1:Hid _:=Ok.row' h2 HP.out
 have HR1:Hid _:=Ok.row' h2 HR.out
 have HW1:Hid (W.heap.size<=w1.heap.size/\gp<W.heap.size/\gr<W.heap.size):=⟨Ok.le h2,za2 HP.out,za2 HR.out⟩
 clear h2
 obtain ⟨b,hbb⟩:∃ z,z=inLp t h:=⟨_,rfl⟩
 have HBB:Hid (b=inLp t h):=hbb
 rw [<-hbb]
 clear hbb
 obtain ⟨c0,c1,c2,c3,c4,c5⟩:=zb2 HP1.out
 have lgp:=za2 HP1.out
 cases b with
 | false =>
  have HE:Hid (leaT h t=cpT t):=by unfold Hid leaT;rw [if_neg (by rw [<-HBB.out];decide)]
  go_wp2_with fail
  refine (HCP.out w1 HK1.out).mono ?_
  rintro e w2 ⟨v1,v2,rfl,h3,h4⟩
  have HT2:Hid (TokOwn w2 w1.heap.size v1 v2 (cpT t)):=h3
  have HK2:Hid (Ok w w2):=HK1.out.step h4
  have HR2:Hid _:=Ok.row' h4 HR1.out
  obtain ⟨a1,b1,rfl⟩:=za0 h3.hist
  obtain ⟨a2,b2,rfl⟩:=za0 h3.loops
  obtain ⟨d0,d1,d2,d3,d4,d5⟩:=zb2 HR2.out
  have lgr:=za2 HR2.out
  clear h3 h4 c0 c1 c2 c3 c4 c5 lgp
  go_wp2_with fail
  (try simp only [Exit.inBlock,Exit.then])
  refine bodyPost_ret (results_cell_row rfl _ _ gr 54 #[_,_,_] (0,0) _ rfl (zd9 HR2.out _ _ _) Tryz.underlying54 rfl infTk) rfl ?_
  exact ⟨_,_,rfl,by rw [HE.out];exact (HT2.out.set3 (by have:=HW1.out;omega) _ _ _).base HK1.out.le,HK2.out.set3 (by have:=HG.out;omega) _ _ _⟩
 | true =>
  have HE:Hid (leaT h t=cpT (t.1,t.2.1,t.2.2.dropLast)):=by unfold Hid leaT;rw [if_pos HBB.out.symm]
  obtain ⟨k,hk⟩:∃ k,n=k+1:=by
   cases hn:n with
   | zero =>
    have h1:=zz4 (t:=t) (h:=h) (List.eq_nil_of_length_eq_zero (by rw [<-HQ.out.2.2,hn]))
    rw [<-HBB.out] at h1
    cases h1
   | succ k=>exact ⟨k,rfl⟩
  have HKN:Hid (n=k+1):=hk
  subst hk
  have hcap1:k<=lc:=by have:=HCAP.out;omega
  have hcap2:(k:Int)<=(lc:Int):=by omega
  have kb:k<1000000000000000:=by have h1:=HB.out.2;have h2:=HQ.out.2.2;omega
  have kw:IntKind.i64.wrap (((k+1:Nat):Int)-1)=(k:Int):=by rw [IntKind.wrap_i64];omega
  have kw2:wrap64 (k:Int)=(k:Int):=by unfold wrap64;omega
  clear kb
  go_upto_region 3 with (fail)
  obtain ⟨W2,hW2⟩:∃ z,z=w1.setCell ⟨gp,2,none⟩ (.slice lo k lc):=⟨_,rfl⟩
  rw [<-hW2]
  have HK2:Hid (Ok w W2):=by unfold Hid;rw [hW2];exact HK1.out.set HG.out.1 _
  have HP2:Hid (W2.heap[gp]?=some (.cells #[Value.bool m,Value.slice ho q hc,Value.slice lo k lc] 54 (0,0))):=by unfold Hid;rw [hW2];exact yw7 HP1.out _
  have HR2:Hid (W2.heap[gr]?=some (.cells #[Value.bool false,Value.slice none 0 0,Value.slice none 0 0] 54 (0,0))):=by unfold Hid;rw [hW2];exact (Below.heap_setCell _ _ _ _ (by have h1:=HG.out;show gr≠gp;omega)).trans HR1.out
  clear hW2 c0 c1 c2 c3 c4 c5 lgp
  obtain ⟨c0,c1,c2,c3,c4,c5⟩:=zb2 HP2.out
  have lgp:=za2 HP2.out
  go_wp2_with fail
  refine (HCQ.out W2 k HK2.out rfl).mono ?_
  rintro e w3 ⟨v1,v2,rfl,h3,h4⟩
  have HT3:Hid (TokOwn w3 W2.heap.size v1 v2 (cpT (t.1,t.2.1,t.2.2.dropLast))):=h3
  have HK3:Hid (Ok w w3):=HK2.out.step h4
  have HR3:Hid _:=Ok.row' h4 HR2.out
  have HL3:Hid (gr<W2.heap.size):=za2 HR2.out
  obtain ⟨a1,b1,rfl⟩:=za0 h3.hist
  obtain ⟨a2,b2,rfl⟩:=za0 h3.loops
  obtain ⟨d0,d1,d2,d3,d4,d5⟩:=zb2 HR3.out
  have lgr:=za2 HR3.out
  clear h3 h4 c0 c1 c2 c3 c4 c5 lgp
  go_wp2_with fail
  (try simp only [Exit.inBlock,Exit.then])
  refine bodyPost_ret (results_cell_row rfl _ _ gr 54 #[_,_,_] (0,0) _ rfl (zd9 HR3.out _ _ _) Tryz.underlying54 rfl infTk) rfl ?_
  exact ⟨_,_,rfl,by rw [HE.out];exact (HT3.out.set3 HL3.out _ _ _).base HK2.out.le,HK3.out.set3 (by have:=HG.out;omega) _ _ _⟩
end
section
open Go.RowKit
def gorT (h U:Int) (t:Tok):Tok:=if t.1=true then tokM else if inLp t h=true then (false,t.2.1,upLp U t.2.2) else (false,t.2.1,t.2.2++[(h,1)])
theorem zI4 (l:List (Int×Int)) (x:Int×Int):lpL (l++[x])=lpL l++[.int .i64 x.1,.int .i64 x.2]:=by simp [lpL]
theorem yB4 {l:List (Int×Int)} {k:Nat} {x:Int×Int} (hk:l.length=k+1) (hx:l[k]?=some x) (U:Int):lpL (upLp U l)=(lpL l).set (k*2+1) (.int .i64 (if x.2<U then x.2+1 else U))/\(upLp U l).length=k+1:=by
 have hne:l≠[]:=fun e=>by rw [e] at hk;cases hk
 have hg:l.getLast?=some x:=by rw [List.getLast?_eq_getElem?,hk];exact hx
 have hl:l=l.dropLast++[x]:=by
  have h1:=List.dropLast_concat_getLast hne
  rw [List.getLast?_eq_some_getLast hne] at hg
  injection hg with hg
  rw [hg] at h1
  exact h1.symm
 have hd:l.dropLast.length=k:=by rw [List.length_dropLast];omega
 unfold upLp
 rw [hg]
 simp only
 refine ⟨?_,by rw [List.length_append,hd];rfl⟩
 rw [zI4]
 conv=>rhs;rw [hl,zI4]
 rw [List.set_append_right _ _ (by rw [zz3,hd];omega),zz3,hd,show k*2+1-k*2=1 by omega]
 rfl
theorem zz6 {w:World} {B g n cap s:Nat} {e:TypeId} {xs:List Value} (h:w.ownsRow B e s (.slice (some ⟨g,0,none⟩) n cap) n xs) {j:Nat} (u:Value) (hj:j<n*s):(w.setCell ⟨g,j,none⟩ u).ownsRow B e s (.slice (some ⟨g,0,none⟩) n cap) n (xs.set j u):=by
 rcases h.2 with ⟨e1,_⟩ | ⟨g',cap',cur,e1,h1,h2,h3,h4,h5,h6⟩
 ·cases e1
 ·injection e1 with e2 _ e3
  injection e2 with e2
  injection e2 with e2
  subst e2 e3
  refine ⟨by rw [List.length_set];exact h.1,.inr ⟨g,cap,_,rfl,h1,heap_setCell_same _ _ _ _ _ _ h2,h3,h4,by simpa using h5,?_⟩⟩
  rw [<-h6]
  simp [List.take_set]
theorem zc8 {w:World} {B s n:Nat} {e:TypeId} {v:Value} {xs:List Value} (h:w.ownsRow B e s v n xs) {p:Addr} (hp:v.ownBlock≠some p.block) (u:Value):(w.setCell p u).ownsRow B e s v n xs :=
 zb4 h fun b hb=>Below.heap_setCell _ _ _ _ fun e1=>hp (by rw [hb,e1])
set_option maxRecDepth 100000 in
theorem zE5 (hv lv:Value) (t:Tok) (gm ge:Nat) (U h:Int) (w:World) (ht:TokIs w hv lv t) (hb:t.2.1.length*8<=140737488355328/\t.2.2.length*16+16<=140737488355328) (hm:w.cell? ⟨gm,0,none⟩=some (.int .i64 h)) (he:w.cell? ⟨ge,0,none⟩=some (.int .i64 U)) (lm:gm<w.heap.size) (le:ge<w.heap.size) (hU:0<U/\U<=1000) (hlow:∀ x∈t.2.2,-9223372036854775808<=x.2) :
  Calls Tryz.prog 124 #[.agg #[.bool t.1,hv,lv],.pointer (some ⟨gm,0,none⟩),.pointer (some ⟨ge,0,none⟩)] w fun e w'=>∃ hv' lv',e=.returned (.agg #[.bool t.1,hv',lv'])/\TokOwn w' w.heap.size hv' lv' (gorT h U t)/\Ok w w':=by
 have HT:=hid ht
 have HU:=hid hU
 have HLW:=hid hlow
 clear hU hlow
 have HB:=hid hb
 have HC:Hid (∀ Y,Ok w Y->Y.cell? ⟨gm,0,none⟩=some (.int .i64 h)/\Y.cell? ⟨ge,0,none⟩=some (.int .i64 U)/\gm<Y.heap.size/\ge<Y.heap.size):=fun Y hY=>⟨hY.cell (p:=⟨gm,0,none⟩) lm hm,hY.cell (p:=⟨ge,0,none⟩) le he,Nat.lt_of_lt_of_le lm hY.le,Nat.lt_of_lt_of_le le hY.le⟩
 obtain ⟨_,_,ho,hc,rfl,_⟩:=ht.hist
 obtain ⟨_,_,lo,lc,rfl,_⟩:=ht.loops
 obtain ⟨m,hmm⟩:∃ m,m=t.1:=⟨_,rfl⟩
 obtain ⟨q,hq⟩:∃ q,q=t.2.1.length:=⟨_,rfl⟩
 obtain ⟨n,hn⟩:∃ n,n=t.2.2.length:=⟨_,rfl⟩
 have HQ:Hid (m=t.1/\q=t.2.1.length/\n=t.2.2.length):=⟨hmm,hq,hn⟩
 rw [<-hmm,<-hq,<-hn]
 have HCP:Hid (∀ Y,Ok w Y->Calls Tryz.prog 82 #[.agg #[.bool m,.slice ho q hc,.slice lo n lc]] Y fun e w'=>∃ hv' lv',e=.returned (.agg #[.bool m,hv',lv'])/\TokOwn w' Y.heap.size hv' lv' (cpT t)/\Ok Y w'):=fun Y hY=>by
  have:=zi2 _ _ t Y (HT.out.below hY) (by have:=HB.out;omega)
  rw [<-hmm,<-hq,<-hn] at this
  exact this
 clear ht hb hm he lm le hmm hq hn HT
 go_enter Tryz.func124,Tryz.ntmps124
 go_wp2_with fail
 obtain ⟨W,hW⟩:∃ z,z=(w.alloc (Obj.cells #[.bool m,.slice ho q hc,.slice lo n lc] 54)).alloc (Obj.cells #[.bool false,.slice none 0 0,.slice none 0 0] 54):=⟨_,rfl⟩
 obtain ⟨gr,hgr⟩:∃ z,z=w.heap.size+1:=⟨_,rfl⟩
 obtain ⟨gp,hgp⟩:∃ z,z=w.heap.size:=⟨_,rfl⟩
 rw [<-hW,<-hgr,<-hgp]
 have HK:Hid (Ok w W):=by unfold Hid;rw [hW];exact ((Ok.refl w).alloc _).alloc _
 have HP:Hid (W.heap[gp]?=some (.cells #[Value.bool m,Value.slice ho q hc,Value.slice lo n lc] 54 (0,0))):=by unfold Hid;rw [hW,hgp];exact (by repeat (first | (refine heap_at _ _ _ ?hx; case hx => (first | (simp; done) | (simp; omega))) | (refine heap_past _ _ _ ?hy ?_; case hy => (first | (simp; done) | (simp; omega))) | fail))
 have HR:Hid (W.heap[gr]?=some (.cells #[Value.bool false,Value.slice none 0 0,Value.slice none 0 0] 54 (0,0))):=by unfold Hid;rw [hW,hgr];exact (by repeat (first | (refine heap_at _ _ _ ?hx; case hx => (first | (simp; done) | (simp; omega))) | (refine heap_past _ _ _ ?hy ?_; case hy => (first | (simp; done) | (simp; omega))) | fail))
 have HG:Hid (w.heap.size<=gp/\gp<gr):=by unfold Hid;omega
 clear hW hgr hgp
 refine (HCP.out W HK.out).mono ?_
 rintro e w1 ⟨v1,v2,rfl,h1,h2⟩
 have HT1:Hid (TokOwn w1 W.heap.size v1 v2 (cpT t)):=h1
 have HK1:Hid (Ok w w1):=HK.out.step h2
 have HP1:Hid _:=Ok.row' h2 HP.out
 have HR1:Hid _:=Ok.row' h2 HR.out
 have HW1:Hid (W.heap.size<=w1.heap.size/\gp<W.heap.size/\gr<W.heap.size):=⟨Ok.le h2,za2 HP.out,za2 HR.out⟩
 obtain ⟨a1,b1,rfl⟩:=za0 h1.hist
 obtain ⟨a2,b2,rfl⟩:=za0 h1.loops
 obtain ⟨c0,c1,c2,c3,c4,c5⟩:=zb2 HP1.out
 have lgp:=za2 HP1.out
 clear h1 h2
 obtain ⟨q1,hq1⟩:∃ z,z=(cpT t).2.1.length:=⟨_,rfl⟩
 obtain ⟨n1,hn1⟩:∃ z,z=(cpT t).2.2.length:=⟨_,rfl⟩
 have HQ1:Hid (q1=(cpT t).2.1.length/\n1=(cpT t).2.2.length):=⟨hq1,hn1⟩
 rw [<-hq1,<-hn1]
 rw [<-hq1,<-hn1] at HT1
 clear hq1 hn1
 go_upto_region 2 with (fail)
 obtain ⟨W2,hW2⟩:∃ z,z=((w1.setCell ⟨gp,0,none⟩ (.bool m)).setCell ⟨gp,1,none⟩ (.slice a1 q1 b1)).setCell ⟨gp,2,none⟩ (.slice a2 n1 b2):=⟨_,rfl⟩
 rw [<-hW2]
 have HT2:Hid (TokOwn W2 W.heap.size (.slice a1 q1 b1) (.slice a2 n1 b2) (cpT t)):=by unfold Hid;rw [hW2];exact HT1.out.set3 HW1.out.2.1 _ _ _
 have HK2:Hid (Ok w W2):=by unfold Hid;rw [hW2];exact HK1.out.set3 HG.out.1 _ _ _
 have HP2:Hid (W2.heap[gp]?=some (.cells #[Value.bool m,Value.slice a1 q1 b1,Value.slice a2 n1 b2] 54 (0,0))):=by unfold Hid;rw [hW2];exact zd9 HP1.out _ _ _
 have HR2:Hid (W2.heap[gr]?=some (.cells #[Value.bool false,Value.slice none 0 0,Value.slice none 0 0] 54 (0,0))):=by unfold Hid;rw [hW2,zj3 _ (by have:=HG.out;omega)];exact HR1.out
 have HL2:Hid (W.heap.size<=W2.heap.size):=by unfold Hid;rw [hW2];exact Nat.le_trans HW1.out.1 (zE4 _ _ _ _ _)
 clear hW2 c0 c1 c2 c3 c4 c5 lgp HP1 HR1 HT1 HK1
 obtain ⟨c0,c1,c2,c3,c4,c5⟩:=zb2 HP2.out
 obtain ⟨d0,d1,d2,d3,d4,d5⟩:=zb2 HR2.out
 have lgp:=za2 HP2.out
 have lgr:=za2 HR2.out
 obtain ⟨x0,x1,x2,x3⟩:=HC.out W2 HK2.out
 have hne:¬gp=gr:=by have:=HG.out;omega
 cases m with
 | true =>
  have HE:Hid (cpT t=gorT h U t):=by unfold Hid cpT gorT;rw [if_pos HQ.out.1.symm,if_pos HQ.out.1.symm]
  go_wp2_with fail
  (try simp only [Exit.inBlock,Exit.then])
  refine bodyPost_ret (results_cell_row rfl _ _ gr 54 #[_,_,_] (0,0) _ rfl (zd9 HR2.out _ _ _) Tryz.underlying54 rfl infTk) rfl ?_
  exact ⟨_,_,rfl,by rw [<-HE.out];exact (HT2.out.set3 HW1.out.2.2 _ _ _).base HK.out.le,HK2.out.set3 (by have:=HG.out;omega) _ _ _⟩
 | false =>
  have hf:¬t.1=true:=by rw [<-HQ.out.1];decide
  have HE:Hid (cpT t=t):=by unfold Hid cpT;rw [if_neg hf]
  have HQQ:Hid (q1=t.2.1.length/\n1=t.2.2.length):=by have h:=HQ1.out;rw [HE.out] at h;exact h
  have HH2:Hid (W2.ownsRow W.heap.size 3 1 (.slice a1 q1 b1) q1 (ilL t.2.1)):=by have h:=HT2.out.hist;rw [HE.out,<-HQQ.out.1] at h;exact h
  have HO2:Hid (W2.ownsRow W.heap.size 214 2 (.slice a2 n1 b2) n1 (lpL t.2.2)):=by have h:=HT2.out.loops;rw [HE.out,<-HQQ.out.2] at h;exact h
  have HF:Hid (gorT h U t=if inLp t h=true then (false,t.2.1,upLp U t.2.2) else (false,t.2.1,t.2.2++[(h,1)])):=by unfold Hid gorT;rw [if_neg hf]
  have HWI:Hid (Calls Tryz.prog 123 #[.agg #[.bool false,.slice a1 q1 b1,.slice a2 n1 b2],.int .i64 h] W2 fun e w'=>e=.returned (.bool (inLp t h))/\Ok W2 w'):=zw6 false _ _ t h W2 (by have h1:=HT2.out.is;rw [HE.out] at h1;exact h1) (by have:=HB.out.2;omega)
  clear hf
  go_wp2_with fail
  refine HWI.out.mono ?_
  rintro e w3 ⟨rfl,h3⟩
  have HK3:Hid (Ok w w3):=HK2.out.step h3
  have HP3:Hid _:=Ok.row' h3 HP2.out
  have HR3:Hid _:=Ok.row' h3 HR2.out
  have HH3:Hid (w3.ownsRow W.heap.size 3 1 (.slice a1 q1 b1) q1 (ilL t.2.1)):=za1 HH2.out h3
  have HO3:Hid (w3.ownsRow W.heap.size 214 2 (.slice a2 n1 b2) n1 (lpL t.2.2)):=za1 HO2.out h3
  have HL3:Hid (W.heap.size<=w3.heap.size):=Nat.le_trans HL2.out (Ok.le h3)
  clear h3 c0 c1 c2 c3 c4 c5 d0 d1 d2 d3 d4 d5 lgp lgr x0 x1 x2 x3 HWI HH2 HO2 HP2 HR2 HT2
  obtain ⟨b,hbb⟩:∃ z,z=inLp t h:=⟨_,rfl⟩
  have HBB:Hid (b=inLp t h):=hbb
  rw [<-hbb]
  clear hbb
  obtain ⟨c0,c1,c2,c3,c4,c5⟩:=zb2 HP3.out
  obtain ⟨d0,d1,d2,d3,d4,d5⟩:=zb2 HR3.out
  have lgp:=za2 HP3.out
  have lgr:=za2 HR3.out
  obtain ⟨x0,x1,x2,x3⟩:=HC.out w3 HK3.out
  cases b with
  | false =>
   have HER:Hid (gorT h U t=(false,t.2.1,t.2.2++[(h,1)])):=by unfold Hid;rw [HF.out,if_neg (by rw [<-HBB.out];decide)]
   go_wp2_with (first | (at_builtin;refine zd0 rfl _ _ 52 214 2 16 _ rfl Tryz.underlying52 infLp (by rfl) (by decide) (by decide) W.heap.size (.slice a2 n1 b2) n1 (lpL t.2.2) (by rfl) (World.ownsRow.alloc HO3.out _) (.slice (some ⟨w3.heap.size,0,none⟩) 1 1) 1 [.int .i64 h,.int .i64 1] (by rfl) (SL.one w3 214 [.int .i64 h,.int .i64 1] rfl (by simp [Value.oneCell'])) (by have h1:=HB.out.2;have h2:=HQQ.out.2;omega) (by have h1:=HL3.out;simp;omega) ?_;intro v9 w9 k1 k2;have HO9:Hid (w9.ownsRow W.heap.size 214 2 v9 (n1+1) (lpL t.2.2++[.int .i64 h,.int .i64 1])):=k1;have HH9:Hid (w9.ownsRow W.heap.size 3 1 (.slice a1 q1 b1) q1 (ilL t.2.1)):=zd6 (World.ownsRow.alloc HH3.out _) (World.ownsRow.alloc HO3.out _) (by decide) k2;have HK9:Hid (Ok w w9):=Ok.grown (HK3.out.alloc _) k2 (fun b e=>by have h1:=((World.ownsRow.alloc HO3.out (Obj.cells #[.int .i64 h,.int .i64 1] 214)).lt b e).1;have h2:=HK.out.le;omega);have HB9:Hid (∀ g o,g<W.heap.size->w3.heap[g]?=some o->w9.heap[g]?=some o):=(fun g o hg ho=>(k2.block g (by have:=za2 ho;simp;omega) (fun e=>by have h1:=((World.ownsRow.alloc HO3.out (Obj.cells #[.int .i64 h,.int .i64 1] 214)).lt g e.symm).1;omega)).trans (heap_past _ _ _ (za2 ho) ho));obtain ⟨vo,vc,rfl⟩:=za0 k1;have HP9:Hid _:=HB9.out gp _ HW1.out.2.1 HP3.out;have HR9:Hid _:=HB9.out gr _ HW1.out.2.2 HR3.out;clear k1 k2 c0 c1 c2 c3 c4 c5 d0 d1 d2 d3 d4 d5 lgp lgr x0 x1 x2 x3;obtain ⟨c0,c1,c2,c3,c4,c5⟩:=zb2 HP9.out;obtain ⟨d0,d1,d2,d3,d4,d5⟩:=zb2 HR9.out;have lgp:=za2 HP9.out;have lgr:=za2 HR9.out) | fail)
   have hR:(w9.setCell ⟨gp,2,none⟩ (.slice vo (n1+1) vc)).heap[gr]?=_:=(Below.heap_setCell _ _ _ _ (by have h1:=HG.out;show gr≠gp;omega)).trans HR9.out
   (try simp only [Exit.inBlock,Exit.then])
   refine bodyPost_ret (results_cell_row rfl _ _ gr 54 #[_,_,_] (0,0) _ rfl (zd9 hR _ _ _) Tryz.underlying54 rfl infTk) rfl ?_
   refine ⟨_,_,rfl,?_,(HK9.out.set HG.out.1 _).set3 (by have:=HG.out;omega) _ _ _⟩
   rw [HER.out]
   refine ⟨?_,?_⟩
   ·show World.ownsRow _ _ _ _ _ t.2.1.length (ilL t.2.1)
    rw [<-HQQ.out.1]
    exact za8 (zf6 (zo2 HH9.out HW1.out.2.1 _) HW1.out.2.2 _ _ _) HK.out.le
   ·show World.ownsRow _ _ _ _ _ (t.2.2++[(h,1)]).length (lpL (t.2.2++[(h,1)]))
    rw [zI4,List.length_append,List.length_singleton,<-HQQ.out.2]
    exact za8 (zf6 (zo2 HO9.out HW1.out.2.1 _) HW1.out.2.2 _ _ _) HK.out.le
  | true =>
   have HER:Hid (gorT h U t=(false,t.2.1,upLp U t.2.2)):=by unfold Hid;rw [HF.out,if_pos HBB.out.symm]
   obtain ⟨k,hk⟩:∃ k,n1=k+1:=by
    cases hn:n1 with
    | zero =>
     have h1:=zz4 (t:=t) (h:=h) (List.eq_nil_of_length_eq_zero (by rw [<-HQQ.out.2,hn]))
     rw [<-HBB.out] at h1
     cases h1
    | succ k=>exact ⟨k,rfl⟩
   have HKN:Hid (t.2.2.length=k+1):=by unfold Hid;rw [<-HQQ.out.2];exact hk
   have HKB:Hid (k<1000000000000000):=by have h1:=HB.out.2;have h2:=HKN.out;unfold Hid;omega
   go_upto_region 6 with (fail)
   subst hk
   obtain ⟨g2,cc,e2,_⟩:=HO3.out.form (by omega)
   injection e2 with e3 _ e4
   subst e3 e4
   obtain ⟨x,hx⟩:∃ x,t.2.2[k]?=some x:=⟨_,List.getElem?_eq_getElem (by rw [HKN.out];omega)⟩
   have HX:Hid (t.2.2[k]?=some x):=hx
   have HR1:Hid (w3.cell? ⟨g2,k*2+1,none⟩=some (.int .i64 x.2)):=by have h1:=HO3.out.cells (g:=g2) rfl _ _ (zs3 _ _ _ hx).2;rw [zc0,Nat.zero_add] at h1;exact h1
   have HL2':Hid (g2<w3.heap.size):=(HO3.out.lt g2 rfl).2
   have kw3:wrap64 (((k+1:Nat):Int)-1)=(k:Int):=by have:=HKB.out;unfold wrap64;omega
   have kw2:wrap64 (k:Int)=(k:Int):=by have:=HKB.out;unfold wrap64;omega
   first | rw [kw3] | rw [kw2]
   have HSS:Hid (∀ Y,Ok w3 Y->Y.cell? ⟨gp,2,none⟩=some (.slice (some ⟨g2,0,none⟩) (k+1) b2)/\gp<Y.heap.size/\Y.cell? ⟨g2,k*2+1,none⟩=some (.int .i64 x.2)/\g2<Y.heap.size/\Y.cell? ⟨ge,0,none⟩=some (.int .i64 U)/\ge<Y.heap.size):=fun Y hY=>⟨hY.cell (p:=⟨gp,2,none⟩) lgp c2,Nat.lt_of_lt_of_le lgp hY.le,hY.cell (p:=⟨g2,k*2+1,none⟩) HL2'.out HR1.out,Nat.lt_of_lt_of_le HL2'.out hY.le,hY.cell (p:=⟨ge,0,none⟩) x3 x1,Nat.lt_of_lt_of_le x3 hY.le⟩
   clear hx kw2 kw3 c0 c1 c2 c3 c4 c5 d0 d1 d2 d3 d4 d5 lgp lgr x0 x1 x2 x3
   have S0:Ok w3 w3.drew:=Below.drew (Ok.refl _)
   obtain ⟨M,hM⟩:∃ z:Int,z=if U-1<x.2 then U-1 else x.2:=⟨_,rfl⟩
   have HMM:Hid ((if U-1<x.2 then U-1 else x.2)=M):=hM.symm
   have HM:Hid (M+1=if x.2<U then x.2+1 else U):=by unfold Hid;rw [hM];split<;>split<;>omega
   have HMB:Hid (-9223372036854775808<=M/\M<=1000):=by have h1:=HLW.out x (List.mem_of_getElem? HX.out);have h2:=HU.out;unfold Hid;rw [hM];split<;>omega
   clear hM
   refine zf9 (fun Y=>Ok w3 Y) 15 (by kernel_rfl) ?_
   refine za3 (i:=0) (v:=.pointer (some ⟨gp,2,none⟩)) rfl (by kernel_rfl) (by kernel_rfl) (by kernel_rfl) (by kernel_rfl) (fun _ _ _ h=>h) S0 (Or.inl ⟨by rfl,?_⟩) ?_
   ·intro w' s0;clear s0;go_simp;try with_reducible rfl
   simp only [pu]
   refine za3 (i:=1) (v:=.slice (some ⟨g2,0,none⟩) (k+1) b2) rfl (by kernel_rfl) (by kernel_rfl) (by kernel_rfl) (by kernel_rfl) (fun _ _ _ h=>h) S0 (Or.inl ⟨by rfl,?_⟩) ?_
   ·intro w' s0;obtain ⟨z1,z2,z3,z4,z5,z6⟩:=HSS.out w' s0;clear s0;go_simp;try with_reducible rfl
   simp only [pu]
   refine za3 (i:=2) (v:=.int .i64 (k:Int)) rfl (by kernel_rfl) (by kernel_rfl) (by kernel_rfl) (by kernel_rfl) (fun _ _ _ h=>h) S0 (Or.inl ⟨by rfl,?_⟩) ?_
   ·intro w' s0;clear s0;go_simp;try with_reducible rfl
   simp only [pu]
   refine za3 (i:=3) (v:=.pointer (some ⟨gp,2,none⟩)) rfl (by kernel_rfl) (by kernel_rfl) (by kernel_rfl) (by kernel_rfl) (fun _ _ _ h=>h) S0 (Or.inl ⟨by rfl,?_⟩) ?_
   ·intro w' s0;clear s0;go_simp;try with_reducible rfl
   simp only [pu]
   refine za3 (i:=4) (v:=.slice (some ⟨g2,0,none⟩) (k+1) b2) rfl (by kernel_rfl) (by kernel_rfl) (by kernel_rfl) (by kernel_rfl) (fun _ _ _ h=>h) S0 (Or.inl ⟨by rfl,?_⟩) ?_
   ·intro w' s0;obtain ⟨z1,z2,z3,z4,z5,z6⟩:=HSS.out w' s0;clear s0;go_simp;try with_reducible rfl
   simp only [pu]
   refine za3 (i:=5) (v:=.int .i64 (k:Int)) rfl (by kernel_rfl) (by kernel_rfl) (by kernel_rfl) (by kernel_rfl) (fun _ _ _ h=>h) S0 (Or.inl ⟨by rfl,?_⟩) ?_
   ·intro w' s0;clear s0;go_simp;try with_reducible rfl
   simp only [pu]
   refine za3 (i:=6) (v:=.pointer (some ⟨g2,k*2,none⟩)) rfl (by kernel_rfl) (by kernel_rfl) (by kernel_rfl) (by kernel_rfl) (fun _ _ _ h=>h) S0 (Or.inl ⟨by rfl,?_⟩) ?_
   ·intro w' s0;clear s0;have z7:(k:Int)<((k+1:Nat):Int):=(by omega);have z8:(0:Int)<=(k:Int):=(by omega);have z9:¬((k:Int)+1<=(k:Int)):=(by omega);go_simp;try with_reducible rfl
   simp only [pu]
   refine za3 (i:=7) (v:=.pointer (some ⟨g2,k*2+1,none⟩)) rfl (by kernel_rfl) (by kernel_rfl) (by kernel_rfl) (by kernel_rfl) (fun _ _ _ h=>h) S0 (Or.inl ⟨by rfl,?_⟩) ?_
   ·intro w' s0;clear s0;go_simp;try with_reducible rfl
   simp only [pu]
   refine za3 (i:=8) (v:=.int .i64 x.2) rfl (by kernel_rfl) (by kernel_rfl) (by kernel_rfl) (by kernel_rfl) (fun _ _ _ h=>h) S0 (Or.inl ⟨by rfl,?_⟩) ?_
   ·intro w' s0;obtain ⟨z1,z2,z3,z4,z5,z6⟩:=HSS.out w' s0;clear s0;go_simp;try with_reducible rfl
   simp only [pu]
   refine za3 (i:=9) (v:=.int .i64 U) rfl (by kernel_rfl) (by kernel_rfl) (by kernel_rfl) (by kernel_rfl) (fun _ _ _ h=>h) S0 (Or.inl ⟨by rfl,?_⟩) ?_
   ·intro w' s0;obtain ⟨z1,z2,z3,z4,z5,z6⟩:=HSS.out w' s0;clear s0;go_simp;try with_reducible rfl
   simp only [pu]
   refine za3 (i:=10) (v:=.int .i64 (U-1)) rfl (by kernel_rfl) (by kernel_rfl) (by kernel_rfl) (by kernel_rfl) (fun _ _ _ h=>h) S0 (Or.inl ⟨by rfl,?_⟩) ?_
   ·intro w' s0;clear s0;have u1:IntKind.i64.wrap (U-1)=U-1:=(by have:=HU.out;rw [IntKind.wrap_i64];omega);have u2:wrap64 (U-1)=U-1:=(by have:=HU.out;unfold wrap64;omega);go_simp;try with_reducible rfl
   simp only [pu]
   refine za3 (i:=11) (v:=.int .i64 M) rfl (by kernel_rfl) (by kernel_rfl) (by kernel_rfl) (by kernel_rfl) (fun _ _ _ h=>h) S0 (Or.inl ⟨by rfl,?_⟩) ?_
   ·intro w' s0;clear s0;have hM1:=HMM.out;go_simp;(try (rw [<-hM1];split<;>omega));try with_reducible rfl
   simp only [pu]
   refine za3 (i:=12) (v:=.int .i64 (M+1)) rfl (by kernel_rfl) (by kernel_rfl) (by kernel_rfl) (by kernel_rfl) (fun _ _ _ h=>h) S0 (Or.inl ⟨by rfl,?_⟩) ?_
   ·intro w' s0;clear s0;have u1:IntKind.i64.wrap (M+1)=M+1:=(by have:=HMB.out;rw [IntKind.wrap_i64];omega);have u2:wrap64 (M+1)=M+1:=(by have:=HMB.out;unfold wrap64;omega);go_simp;try with_reducible rfl
   simp only [pu]
   refine zb0 (i:=13) (by kernel_rfl) rfl (fun K hK=>?_)
   go_simp
   rw [if_pos (show (k:Int)<(k:Int)+1 by omega)]
   go_simp
   refine hK.out _ _ (fun _=>S0) ?_
   clear hK K
   refine zb0 (i:=14) (by kernel_rfl) rfl (fun K hK=>?_)
   go_simp
   refine hK.out _ _ (fun _=>S0) ?_
   clear hK K
   have HO4:Hid (w3.drew.ownsRow W.heap.size 214 2 (.slice (some ⟨g2,0,none⟩) (k+1) b2) (k+1) (lpL t.2.2)):=za1 HO3.out S0
   have HH4:Hid (w3.drew.ownsRow W.heap.size 3 1 (.slice a1 q1 b1) q1 (ilL t.2.1)):=za1 HH3.out S0
   have HP4:Hid _:=Ok.row' S0 HP3.out
   have HR4:Hid _:=Ok.row' S0 HR3.out
   have HK4:Hid (Ok w w3.drew):=HK3.out.step S0
   obtain ⟨W4,hW4⟩:∃ z,z=w3.drew:=⟨_,rfl⟩
   rw [<-hW4] at HO4 HH4 HP4 HR4 HK4
   have r1:W4.cell? ⟨g2,k*2+1,none⟩=some (.int .i64 x.2):=by rw [hW4];exact (HSS.out _ S0).2.2.1
   have fr:W4.frozen? ⟨g2,k*2+1,none⟩=false:=by
    rcases HO4.out.2 with ⟨e1,_⟩ | ⟨g',cap,cur,e1,_,hgg,_⟩
    ·cases e1
    ·injection e1 with e5 _ _
     injection e5 with e5
     injection e5 with e5
     subst e5
     exact frozen_of_row _ _ _ _ _ hgg
   have lg2:g2<W4.heap.size:=(HO4.out.lt g2 rfl).2
   rw [<-hW4]
   clear hW4
   refine zb0 (i:=15) (by kernel_rfl) rfl (fun K hK=>?_)
   go_simp
   refine hK.out _ _ (fun h=>absurd rfl h) ?_
   clear hK K
   refine zf8 (by kernel_rfl) ?_ _
   have HN2:Hid (W.heap.size<=g2):=(HO4.out.lt g2 rfl).1
   obtain ⟨W5,hW5⟩:∃ z,z=W4.setCell ⟨g2,k*2+1,none⟩ (.int .i64 (M+1)):=⟨_,rfl⟩
   rw [<-hW5]
   have HP5:Hid (W5.heap[gp]?=some (.cells #[Value.bool false,Value.slice a1 q1 b1,Value.slice (some ⟨g2,0,none⟩) (k+1) b2] 54 (0,0))):=by unfold Hid;rw [hW5];exact (Below.heap_setCell _ _ _ _ (by have h1:=HN2.out;have h2:=HW1.out;show gp≠g2;omega)).trans HP4.out
   have HR5:Hid (W5.heap[gr]?=some (.cells #[Value.bool false,Value.slice none 0 0,Value.slice none 0 0] 54 (0,0))):=by unfold Hid;rw [hW5];exact (Below.heap_setCell _ _ _ _ (by have h1:=HN2.out;have h2:=HW1.out;show gr≠g2;omega)).trans HR4.out
   have HO5:Hid (W5.ownsRow W.heap.size 214 2 (.slice (some ⟨g2,0,none⟩) (k+1) b2) (k+1) ((lpL t.2.2).set (k*2+1) (.int .i64 (M+1)))):=by unfold Hid;rw [hW5];exact zz6 HO4.out _ (by omega)
   have HH5:Hid (W5.ownsRow W.heap.size 3 1 (.slice a1 q1 b1) q1 (ilL t.2.1)):=by
    unfold Hid
    rw [hW5]
    refine zc8 HH4.out (fun e=>?_) _
    obtain ⟨c1,f1,z1⟩:=zg7 HH4.out g2 e
    obtain ⟨c2,f2,z2⟩:=zg7 HO4.out g2 rfl
    rw [z1] at z2
    injection z2 with z2
    injection z2 with _ z3
    exact absurd z3 (by decide)
   have HK5:Hid (Ok w W5):=by unfold Hid;rw [hW5];exact HK4.out.set (by have h1:=HN2.out;have h2:=HK.out.le;show w.heap.size<=g2;omega) _
   clear hW5 r1 fr lg2
   obtain ⟨c0,c1,c2,c3,c4,c5⟩:=zb2 HP5.out
   obtain ⟨d0,d1,d2,d3,d4,d5⟩:=zb2 HR5.out
   have lgp:=za2 HP5.out
   have lgr:=za2 HR5.out
   go_wp2_with fail
   (try simp only [Exit.inBlock,Exit.then])
   refine bodyPost_ret (results_cell_row rfl _ _ gr 54 #[_,_,_] (0,0) _ rfl (zd9 HR5.out _ _ _) Tryz.underlying54 rfl infTk) rfl ?_
   refine ⟨_,_,rfl,?_,HK5.out.set3 (by have:=HG.out;omega) _ _ _⟩
   obtain ⟨u1,u2⟩:=yB4 HKN.out HX.out U
   rw [HER.out]
   refine ⟨?_,?_⟩
   ·show World.ownsRow _ _ _ _ _ t.2.1.length (ilL t.2.1)
    rw [<-HQQ.out.1]
    exact za8 (zf6 HH5.out HW1.out.2.2 _ _ _) HK.out.le
   ·show World.ownsRow _ _ _ _ _ (upLp U t.2.2).length (lpL (upLp U t.2.2))
    rw [u1,u2,<-HM.out]
    exact za8 (zf6 HO5.out HW1.out.2.2 _ _ _) HK.out.le
end
end Go.Proofs.YtenoopfeplalnaaGreatDoor
