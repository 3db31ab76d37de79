import Derived.Test.YtpongdpnbclchaaGreatDoorKGc
set_option maxHeartbeats 8000000
set_option linter.all false
set_option maxRecDepth 100000
namespace Go.Proofs.YtpongdpnbclchaaGreatDoor
variable{w:World}
section
open Go.RowKit
def wh5(h:Int)(t:Tok):Tok:=cpT (if EO t h=true then (t.1,t.2.1,t.2.2.dropLast) else t)
theorem yc0(l:List (Int×Int)):∀(j:Nat) (u:Value),(lpL l.dropLast)[j]?=some u->(lpL l)[j]?=some u:=by
 intro j u hj;by_cases c:l=[]
 ·subst c;exact hj
 have e:lpL l=lpL l.dropLast++lpL [l.getLast c]:=by
  conv=>lhs;rw[<-List.dropLast_concat_getLast c]
  unfold lpL;rw[List.flatMap_append]
 obtain⟨hl,_⟩:=List.getElem?_eq_some_iff.1 hj;rw[e,List.getElem?_append_left hl];exact hj
theorem yy3{g:Nat}{u v x:Value}{t:TypeId}(hg:w.heap[g]?=some (.cells #[u,v,x] t (0,0)))(c:Value):(w.setCell (aD g 2) c).heap[g]?=some (.cells #[u,v,c] t (0,0)):=by have h3:=heap_setCell_same w g 2 _ t c hg;simpa using h3
theorem zU1(hv lv:Value)(t:Tok)(gh:Nat)(h:Int)(w:World)(ht:BC w hv lv t)(hb:t.2.1.length*8<=140737488355328/\t.2.2.length*16<=140737488355328)(hm:w.cell? (aD gh 0)=some (nI h))(lm:gh<w.heap.size) :
  Calls Tryz.prog 61 #[.agg #[.bool t.1,hv,lv],pA gh 0] w λe w'=>∃hv' lv',e=.returned (.agg #[.bool t.1,hv',lv'])/\AA w' w.heap.size hv' lv' (wh5 h t)/\Ok w w':=by
 have HT:=hid ht;have HB:=hid hb;obtain⟨_,_,ho,hc,rfl,_⟩:=ht.hist;obtain⟨_,_,lo,lc,rfl,hl2⟩:=ht.loops;have hcap:t.2.2.length<=lc:=ht.cap _ _ _ rfl;obtain⟨m,hmm⟩:=qq (t.1);obtain⟨q,hq⟩:=qq (t.2.1.length);obtain⟨n,hn⟩:=qq (t.2.2.length);have HQ:Hi (m=t.1/\q=t.2.1.length/\n=t.2.2.length):=⟨hmm,hq,hn⟩;have HCAP:Hi (n<=lc):=by unfold Hi;omega
 rw[<-hmm,<-hq,<-hn]
 have HW:Hi (∀Y,Ok w Y->Calls Tryz.prog 62 #[.agg #[.bool m,.slice ho q hc,.slice lo n lc],nI h] Y λe w'=>e=.returned (.bool (EO t h))/\Ok Y w'):=λY hY=>by have:=zx2 m _ _ t h Y (HT.o.below hY) (by have:=HB.o.2;omega);rw[<-hq,<-hn]at this;exact this
 have HCP:Hi (∀Y,Ok w Y->Calls Tryz.prog 32 #[.agg #[.bool m,.slice ho q hc,.slice lo n lc]] Y λe w'=>∃hv' lv',e=.returned (.agg #[.bool m,hv',lv'])/\AA w' Y.heap.size hv' lv' (cpT t)/\Ok Y w'):=λY hY=>by have:=zi2 _ _ t Y (HT.o.below hY) HB.o;rw[<-hmm,<-hq,<-hn]at this;exact this
 have HCQ:Hi (∀Y k,Ok w Y->n=k+1->Calls Tryz.prog 32 #[.agg #[.bool m,.slice ho q hc,.slice lo k lc]] Y λe w'=>∃hv' lv',e=.returned (.agg #[.bool m,hv',lv'])/\AA w' Y.heap.size hv' lv' (cpT (t.1,t.2.1,t.2.2.dropLast))/\Ok Y w'):=λY k hY hk=>by
  have hkl:t.2.2.dropLast.length=k:=by rw[List.length_dropLast];omega
  have h3:SL Y 2 (.slice lo k lc) t.2.2.dropLast.length (lpL t.2.2.dropLast):=by
   obtain⟨_,_,ao,cc,e,h4⟩:=(HT.o.below hY).loops
   injection e with e1 _ e3
   subst e1 e3;refine⟨zz8 _,yb8 _,_,_,by rw[hkl],?_⟩;obtain⟨b,o,e5,e6,e7⟩:=h4.resolve_left oM;exact .inr ⟨b,o,e5,e6,λj u hj=>e7 j u (yc0 _ j u hj)⟩
  rw[hmm];exact zi2 (.slice ho q hc) (.slice lo k lc) (t.1,t.2.1,t.2.2.dropLast) Y ⟨by rw[hq];exact(HT.o.below hY).hist,h3,λao mm c e=>by injection e with _ e2 e3;have:=HCAP.o;omega⟩ ⟨HB.o.1,by show t.2.2.dropLast.length*16<=_;rw[hkl];have:=HB.o.2;omega⟩
 have HC:Hi (∀Y,Ok w Y->Y.cell? (aD gh 0)=some (nI h)/\gh<Y.heap.size):=λY hY=>⟨hY.cell (p:=⟨gh,0,none⟩) lm hm,lL_ lm hY.le⟩;clear ht hb hm lm hmm hq hn hl2 hcap;go_enter Tryz.func61,Tryz.ntmps61;obtain⟨x0,x1⟩:=HC.o w (Ok.refl w);go_wp2_with fail;obtain⟨W,hW⟩:=qq ((w.alloc (Obj.cells #[.bool m,.slice ho q hc,.slice lo n lc] 28)).alloc (Obj.cells #[.bool false,sZ,sZ] 28));obtain⟨gr,hgr⟩:=qq (w.heap.size+1);obtain⟨gp,hgp⟩:=qq (w.heap.size);rw[<-hW,<-hgr,<-hgp];have HK:Hi (Ok w W):=by rw[hW];exact((Ok.refl w).alloc _).alloc _
 have HP:Hi (W.heap[gp]?=some (.cells #[Value.bool m,Value.slice ho q hc,Value.slice lo n lc] 28 (0,0))):=by rw[hW,hgp];exact jj
 have HR:Hi (W.heap[gr]?=some (.cells #[Value.bool false,sZ,sZ] 28 (0,0))):=by rw[hW,hgr];exact jj
 have HG:Hi (w.heap.size<=gp/\gp<gr):=by unfold Hi;omega
 clear hW hgr hgp x0 x1;refine mq (HW.o W HK.o) λw1 h2=>?_;have HK1:=hid (HK.o.step h2);have HP1:Hi _:=Ok.row' h2 HP.o;have HR1:Hi _:=Ok.row' h2 HR.o;have HW1:Hi (W.heap.size<=w1.heap.size/\gp<W.heap.size/\gr<W.heap.size):=⟨Ok.le h2,za2 HP.o,za2 HR.o⟩;clear h2;obtain⟨b,hbb⟩:=qq (EO t h);have HBB:Hi (b=EO t h):=hbb;rw[<-hbb];clear hbb;obtain⟨c0,c1,c2,c3,c4,c5⟩:=za9 HP1.o;have lgp:=za2 HP1.o
 cases b with
 | false =>
  have HE:Hi (wh5 h t=cpT t):=by unfold Hi wh5;rw[if_neg (by rw[<-HBB.o];decide)]
  go_wp2_with fail;refine(HCP.o w1 HK1.o).mono ?_;rintro e w2 ⟨v1,v2,rfl,h3,h4⟩;have HT2:=hid h3;have HK2:=hid (HK1.o.step h4);have HR2:Hi _:=Ok.row' h4 HR1.o;obtain⟨a1,b1,rfl⟩:=za0 h3.hist;obtain⟨a2,b2,rfl⟩:=za0 h3.loops;obtain⟨d0,d1,d2,d3,d4,d5⟩:=za9 HR2.o;have lgr:=za2 HR2.o;clear h3 h4 c0 c1 c2 c3 c4 c5 lgp;go_wp2_with fail;(try simp only[Exit.inBlock,Exit.then]);refine bodyPost_ret (results_cell_row rfl _ _ gr 28 #[_,_,_] (0,0) _ rfl (zd9 HR2.o _ _ _) Tryz.underlying28 rfl CB) rfl ?_;exact⟨_,_,rfl,by rw[HE.o];exact(HT2.o.set3 (by have:=HW1.o;omega) _ _ _).base HK1.o.le,HK2.o.set3 (by have:=HG.o;omega) _ _ _⟩
 | true =>
  have HE:Hi (wh5 h t=cpT (t.1,t.2.1,t.2.2.dropLast)):=by unfold Hi wh5;rw[if_pos HBB.o.symm]
  obtain⟨k,hk⟩:∃k,n=k+1:=by
   cases hn:n with
   | zero =>
    have h1:=zz9 (t:=t) (h:=h) (List.eq_nil_of_length_eq_zero (by rw[<-HQ.o.2.2,hn]));rw[<-HBB.o]at h1;cases h1
   | succ k=>exact⟨k,rfl⟩
  have HKN:Hi (n=k+1):=hk;subst hk;have hcap1:k<=lc:=by have:=HCAP.o;omega
  have hcap2:(k:Int)<=(lc:Int):=oM;have kb:k<1000000000000000:=by have h1:=HB.o.2;have h2:=HQ.o.2.2;omega
  have kw:IntKind.i64.wrap (((k+1:Nat):Int)-1)=(k:Int):=by rw[IntKind.wrap_i64];omega
  have kw2:wrap64 (k:Int)=(k:Int):=by unfold wrap64;omega
  clear kb
  go_upto_region 3 with (fail)
  obtain⟨W2,hW2⟩:=qq (w1.setCell ⟨gp,2,none⟩ (.slice lo k lc));rw[<-hW2];have HK2:Hi (Ok w W2):=by rw[hW2];exact HK1.o.set HG.o.1 _
  have HP2:Hi (W2.heap[gp]?=some (.cells #[Value.bool m,Value.slice ho q hc,Value.slice lo k lc] 28 (0,0))):=by rw[hW2];exact yy3 HP1.o _
  have HR2:Hi (W2.heap[gr]?=some (.cells #[Value.bool false,sZ,sZ] 28 (0,0))):=by rw[hW2];exact(Below.heap_setCell _ _ _ _ (by have h1:=HG.o;show gr≠gp;omega)).trans HR1.o
  clear hW2 c0 c1 c2 c3 c4 c5 lgp;obtain⟨c0,c1,c2,c3,c4,c5⟩:=za9 HP2.o;have lgp:=za2 HP2.o;go_wp2_with fail;refine(HCQ.o W2 k HK2.o rfl).mono ?_;rintro e w3 ⟨v1,v2,rfl,h3,h4⟩;have HT3:=hid h3;have HK3:=hid (HK2.o.step h4);have HR3:Hi _:=Ok.row' h4 HR2.o;have HL3:=hid (za2 HR2.o);obtain⟨a1,b1,rfl⟩:=za0 h3.hist;obtain⟨a2,b2,rfl⟩:=za0 h3.loops;obtain⟨d0,d1,d2,d3,d4,d5⟩:=za9 HR3.o;have lgr:=za2 HR3.o;clear h3 h4 c0 c1 c2 c3 c4 c5 lgp;go_wp2_with fail;(try simp only[Exit.inBlock,Exit.then]);refine bodyPost_ret (results_cell_row rfl _ _ gr 28 #[_,_,_] (0,0) _ rfl (zd9 HR3.o _ _ _) Tryz.underlying28 rfl CB) rfl ?_;exact⟨_,_,rfl,by rw[HE.o];exact(HT3.o.set3 HL3.o _ _ _).base HK2.o.le,HK3.o.set3 (by have:=HG.o;omega) _ _ _⟩
end
section
open Go.RowKit
def wg5(h U:Int)(t:Tok):Tok:=if t.1=true then EX else if EO t h=true then (false,t.2.1,wa9 U t.2.2) else (false,t.2.1,t.2.2++[(h,1)])
theorem zJ8(l:List (Int×Int))(x:Int×Int):lpL (l++[x])=lpL l++[nI x.1,nI x.2]:=by simp[lpL]
theorem yD2{l:List (Int×Int)}{k:Nat}{x:Int×Int}(hk:l.length=k+1)(hx:l[k]?=some x)(U:Int):lpL (wa9 U l)=(lpL l).set (k*2+1) (nI (if x.2<U then x.2+1 else U))/\(wa9 U l).length=k+1:=by
 have hne:l≠[]:=λe=>by rw[e]at hk;cases hk
 have hg:l.getLast?=some x:=by rw[List.getLast?_eq_getElem?,hk];exact hx
 have hl:l=l.dropLast++[x]:=by
  have h1:=List.dropLast_concat_getLast hne;rw[List.getLast?_eq_some_getLast hne]at hg
  injection hg with hg
  rw[hg]at h1;exact h1.symm
 have hd:l.dropLast.length=k:=by rw[List.length_dropLast];omega
 unfold wa9;rw[hg];simp only;refine⟨?_,by rw[List.length_append,hd];rfl⟩;rw[zJ8]
 conv=>rhs;rw[hl,zJ8]
 rw[List.set_append_right _ _ (by rw[zz8,hd];omega),zz8,hd,show k*2+1-k*2=1 by omega];rfl
theorem zA1{B g n cap s:Nat}{e:TypeId}{xs:List Value}(h:w.ownsRow B e s (.slice (sA g 0) n cap) n xs){j:Nat}(u:Value)(hj:j<n*s):(w.setCell (aD g j) u).ownsRow B e s (.slice (sA g 0) n cap) n (xs.set j u):=by
 rcases h.2 with ⟨e1,_⟩ | ⟨g',cap',cur,e1,h1,h2,h3,h4,h5,h6⟩
 ·cases e1
 injection e1 with e2 _ e3
 injection e2 with e2
 injection e2 with e2
 subst e2 e3;refine⟨by rw[List.length_set];exact h.1,.inr ⟨g,cap,_,rfl,h1,heap_setCell_same _ _ _ _ _ _ h2,h3,h4,by simpa using h5,?_⟩⟩;rw[<-h6];simp[List.take_set]
theorem zc7{B s n:Nat}{e:TypeId}{v:Value}{xs:List Value}(h:w.ownsRow B e s v n xs){p:Addr}(hp:v.ownBlock≠some p.block)(u:Value):(w.setCell p u).ownsRow B e s v n xs :=
 zb4 h λb hb=>Below.heap_setCell _ _ _ _ λe1=>hp (by rw[hb,e1])
theorem zF4(hv lv:Value)(t:Tok)(gm ge:Nat)(U h:Int)(w:World)(ht:BC w hv lv t)(hb:t.2.1.length*8<=140737488355328/\t.2.2.length*16+16<=140737488355328)(hm:w.cell? (aD gm 0)=some (nI h))(he:w.cell? (aD ge 0)=some (nI U))(lm:gm<w.heap.size)(le:ge<w.heap.size)(hU:0<U/\U<=1000)(hlow:∀x∈t.2.2,-9223372036854775808<=x.2) :
  Calls Tryz.prog 63 #[.agg #[.bool t.1,hv,lv],pA gm 0,pA ge 0] w λe w'=>∃hv' lv',e=.returned (.agg #[.bool t.1,hv',lv'])/\AA w' w.heap.size hv' lv' (wg5 h U t)/\Ok w w':=by
 have HT:=hid ht;have HU:=hid hU;have HLW:=hid hlow;clear hU hlow;have HB:=hid hb;have HC:Hi (∀Y,Ok w Y->Y.cell? (aD gm 0)=some (nI h)/\Y.cell? (aD ge 0)=some (nI U)/\gm<Y.heap.size/\ge<Y.heap.size):=λY hY=>⟨hY.cell (p:=⟨gm,0,none⟩) lm hm,hY.cell (p:=⟨ge,0,none⟩) le he,lL_ lm hY.le,lL_ le hY.le⟩;obtain⟨_,_,ho,hc,rfl,_⟩:=ht.hist;obtain⟨_,_,lo,lc,rfl,_⟩:=ht.loops;obtain⟨m,hmm⟩:=qq (t.1);obtain⟨q,hq⟩:=qq (t.2.1.length);obtain⟨n,hn⟩:=qq (t.2.2.length);have HQ:Hi (m=t.1/\q=t.2.1.length/\n=t.2.2.length):=⟨hmm,hq,hn⟩;rw[<-hmm,<-hq,<-hn]
 have HCP:Hi (∀Y,Ok w Y->Calls Tryz.prog 32 #[.agg #[.bool m,.slice ho q hc,.slice lo n lc]] Y λe w'=>∃hv' lv',e=.returned (.agg #[.bool m,hv',lv'])/\AA w' Y.heap.size hv' lv' (cpT t)/\Ok Y w'):=λY hY=>by have:=zi2 _ _ t Y (HT.o.below hY) (by have:=HB.o;omega);rw[<-hmm,<-hq,<-hn]at this;exact this
 clear ht hb hm he lm le hmm hq hn HT;go_enter Tryz.func63,Tryz.ntmps63;go_wp2_with fail;obtain⟨W,hW⟩:=qq ((w.alloc (Obj.cells #[.bool m,.slice ho q hc,.slice lo n lc] 28)).alloc (Obj.cells #[.bool false,sZ,sZ] 28));obtain⟨gr,hgr⟩:=qq (w.heap.size+1);obtain⟨gp,hgp⟩:=qq (w.heap.size);rw[<-hW,<-hgr,<-hgp];have HK:Hi (Ok w W):=by rw[hW];exact((Ok.refl w).alloc _).alloc _
 have HP:Hi (W.heap[gp]?=some (.cells #[Value.bool m,Value.slice ho q hc,Value.slice lo n lc] 28 (0,0))):=by rw[hW,hgp];exact jj
 have HR:Hi (W.heap[gr]?=some (.cells #[Value.bool false,sZ,sZ] 28 (0,0))):=by rw[hW,hgr];exact jj
 have HG:Hi (w.heap.size<=gp/\gp<gr):=by unfold Hi;omega
 clear hW hgr hgp;refine(HCP.o W HK.o).mono ?_;rintro e w1 ⟨v1,v2,rfl,h1,h2⟩;have HT1:=hid h1;have HK1:=hid (HK.o.step h2);have HP1:Hi _:=Ok.row' h2 HP.o;have HR1:Hi _:=Ok.row' h2 HR.o;have HW1:Hi (W.heap.size<=w1.heap.size/\gp<W.heap.size/\gr<W.heap.size):=⟨Ok.le h2,za2 HP.o,za2 HR.o⟩;obtain⟨a1,b1,rfl⟩:=za0 h1.hist;obtain⟨a2,b2,rfl⟩:=za0 h1.loops;obtain⟨c0,c1,c2,c3,c4,c5⟩:=za9 HP1.o;have lgp:=za2 HP1.o;clear h1 h2;obtain⟨q1,hq1⟩:=qq ((cpT t).2.1.length);obtain⟨n1,hn1⟩:=qq ((cpT t).2.2.length);have HQ1:Hi (q1=(cpT t).2.1.length/\n1=(cpT t).2.2.length):=⟨hq1,hn1⟩;rw[<-hq1,<-hn1];rw[<-hq1,<-hn1]at HT1;clear hq1 hn1
 go_upto_region 2 with (fail)
 obtain⟨W2,hW2⟩:=qq (((w1.setCell ⟨gp,0,none⟩ (.bool m)).setCell ⟨gp,1,none⟩ (.slice a1 q1 b1)).setCell ⟨gp,2,none⟩ (.slice a2 n1 b2));rw[<-hW2];have HT2:Hi (AA W2 W.heap.size (.slice a1 q1 b1) (.slice a2 n1 b2) (cpT t)):=by rw[hW2];exact HT1.o.set3 HW1.o.2.1 _ _ _
 have HK2:Hi (Ok w W2):=by rw[hW2];exact HK1.o.set3 HG.o.1 _ _ _
 have HP2:Hi (W2.heap[gp]?=some (.cells #[Value.bool m,Value.slice a1 q1 b1,Value.slice a2 n1 b2] 28 (0,0))):=by rw[hW2];exact zd9 HP1.o _ _ _
 have HR2:Hi (W2.heap[gr]?=some (.cells #[Value.bool false,sZ,sZ] 28 (0,0))):=by rw[hW2,zj4 _ (by have:=HG.o;omega)];exact HR1.o
 have HL2:Hi (W.heap.size<=W2.heap.size):=by rw[hW2];exact Nat.le_trans HW1.o.1 (zF3 _ _ _ _ _)
 clear hW2 c0 c1 c2 c3 c4 c5 lgp HP1 HR1 HT1 HK1;obtain⟨c0,c1,c2,c3,c4,c5⟩:=za9 HP2.o;obtain⟨d0,d1,d2,d3,d4,d5⟩:=za9 HR2.o;have lgp:=za2 HP2.o;have lgr:=za2 HR2.o;obtain⟨x0,x1,x2,x3⟩:=HC.o W2 HK2.o;have hne:¬gp=gr:=by have:=HG.o;omega
 cases m with
 | true =>
  have HE:Hi (cpT t=wg5 h U t):=by unfold Hi cpT wg5;rw[if_pos HQ.o.1.symm,if_pos HQ.o.1.symm]
  go_wp2_with fail;(try simp only[Exit.inBlock,Exit.then]);refine bodyPost_ret (results_cell_row rfl _ _ gr 28 #[_,_,_] (0,0) _ rfl (zd9 HR2.o _ _ _) Tryz.underlying28 rfl CB) rfl ?_;exact⟨_,_,rfl,by rw[<-HE.o];exact(HT2.o.set3 HW1.o.2.2 _ _ _).base HK.o.le,HK2.o.set3 (by have:=HG.o;omega) _ _ _⟩
 | false =>
  have hf:¬t.1=true:=by rw[<-HQ.o.1];decide
  have HE:Hi (cpT t=t):=by unfold Hi cpT;rw[if_neg hf]
  have HQQ:Hi (q1=t.2.1.length/\n1=t.2.2.length):=by have h:=HQ1.o;rw[HE.o]at h;exact h
  have HH2:Hi (W2.ownsRow W.heap.size 3 1 (.slice a1 q1 b1) q1 (ilL t.2.1)):=by have h:=HT2.o.hist;rw[HE.o,<-HQQ.o.1]at h;exact h
  have HO2:Hi (W2.ownsRow W.heap.size 45 2 (.slice a2 n1 b2) n1 (lpL t.2.2)):=by have h:=HT2.o.loops;rw[HE.o,<-HQQ.o.2]at h;exact h
  have HF:Hi (wg5 h U t=if EO t h=true then (false,t.2.1,wa9 U t.2.2) else (false,t.2.1,t.2.2++[(h,1)])):=by unfold Hi wg5;rw[if_neg hf]
  have HWI:Hi (Calls Tryz.prog 62 #[.agg #[.bool false,.slice a1 q1 b1,.slice a2 n1 b2],nI h] W2 λe w'=>e=.returned (.bool (EO t h))/\Ok W2 w'):=zx2 false _ _ t h W2 (by have h1:=HT2.o.is;rw[HE.o]at h1;exact h1) (by have:=HB.o.2;omega);clear hf;go_wp2_with fail;refine HWI.o.mono ?_;rintro e w3 ⟨rfl,h3⟩;have HK3:=hid (HK2.o.step h3);have HP3:Hi _:=Ok.row' h3 HP2.o;have HR3:Hi _:=Ok.row' h3 HR2.o;have HH3:=hid (za1 HH2.o h3);have HO3:=hid (za1 HO2.o h3);have HL3:=hid (Nat.le_trans HL2.o (Ok.le h3));clear h3 c0 c1 c2 c3 c4 c5 d0 d1 d2 d3 d4 d5 lgp lgr x0 x1 x2 x3 HWI HH2 HO2 HP2 HR2 HT2;obtain⟨b,hbb⟩:=qq (EO t h);have HBB:Hi (b=EO t h):=hbb;rw[<-hbb];clear hbb;obtain⟨c0,c1,c2,c3,c4,c5⟩:=za9 HP3.o;obtain⟨d0,d1,d2,d3,d4,d5⟩:=za9 HR3.o;have lgp:=za2 HP3.o;have lgr:=za2 HR3.o;obtain⟨x0,x1,x2,x3⟩:=HC.o w3 HK3.o
  cases b with
  | false =>
   have HER:Hi (wg5 h U t=(false,t.2.1,t.2.2++[(h,1)])):=by unfold Hi;rw[HF.o,if_neg (by rw[<-HBB.o];decide)]
   go_wp2_with (first|(at_builtin;refine ze4 rfl _ _ 26 45 2 16 _ rfl Tryz.underlying26 wg7 (by rfl) (by decide) (by decide) W.heap.size (.slice a2 n1 b2) n1 (lpL t.2.2) (by rfl) (World.ownsRow.alloc HO3.o _) (.slice (sA w3.heap.size 0) 1 1) 1 [nI h,nI 1] (by rfl) (SL.one w3 45 [nI h,nI 1] rfl (by simp[Value.oneCell'])) (by have h1:=HB.o.2;have h2:=HQQ.o.2;omega) (by have h1:=HL3.o;simp;omega) ?_;intro v9 w9 k1 k2;have HO9:=hid k1;have HH9:Hi (w9.ownsRow W.heap.size 3 1 (.slice a1 q1 b1) q1 (ilL t.2.1)):=zd6 (World.ownsRow.alloc HH3.o _) (World.ownsRow.alloc HO3.o _) (by decide) k2;have HK9:Hi (Ok w w9):=Ok.grown (HK3.o.alloc _) k2 (λb e=>by have h1:=((World.ownsRow.alloc HO3.o (Obj.cells #[nI h,nI 1] 45)).lt b e).1;have h2:=HK.o.le;omega);have HB9:Hi (∀g o,g<W.heap.size->w3.heap[g]?=some o->w9.heap[g]?=some o):=(λg o hg ho=>(k2.block g (by have:=za2 ho;simp;omega) (λe=>by have h1:=((World.ownsRow.alloc HO3.o (Obj.cells #[nI h,nI 1] 45)).lt g e.symm).1;omega)).trans (heap_past _ _ _ (za2 ho) ho));obtain⟨vo,vc,rfl⟩:=za0 k1;have HP9:Hi _:=HB9.o gp _ HW1.o.2.1 HP3.o;have HR9:Hi _:=HB9.o gr _ HW1.o.2.2 HR3.o;clear k1 k2 c0 c1 c2 c3 c4 c5 d0 d1 d2 d3 d4 d5 lgp lgr x0 x1 x2 x3;obtain⟨c0,c1,c2,c3,c4,c5⟩:=za9 HP9.o;obtain⟨d0,d1,d2,d3,d4,d5⟩:=za9 HR9.o;have lgp:=za2 HP9.o;have lgr:=za2 HR9.o)|fail)
   have hR:(w9.setCell (aD gp 2) (.slice vo (n1+1) vc)).heap[gr]?=_:=(Below.heap_setCell _ _ _ _ (by have h1:=HG.o;show gr≠gp;omega)).trans HR9.o;(try simp only[Exit.inBlock,Exit.then]);refine bodyPost_ret (results_cell_row rfl _ _ gr 28 #[_,_,_] (0,0) _ rfl (zd9 hR _ _ _) Tryz.underlying28 rfl CB) rfl ?_;refine⟨_,_,rfl,?_,(HK9.o.set HG.o.1 _).set3 (by have:=HG.o;omega) _ _ _⟩;rw[HER.o];refine⟨?_,?_⟩
   ·show World.ownsRow _ _ _ _ _ t.2.1.length (ilL t.2.1)
    rw[<-HQQ.o.1];exact za7 (zf6 (zo6 HH9.o HW1.o.2.1 _) HW1.o.2.2 _ _ _) HK.o.le
   show World.ownsRow _ _ _ _ _ (t.2.2++[(h,1)]).length (lpL (t.2.2++[(h,1)]));rw[zJ8,List.length_append,List.length_singleton,<-HQQ.o.2];exact za7 (zf6 (zo6 HO9.o HW1.o.2.1 _) HW1.o.2.2 _ _ _) HK.o.le
  | true =>
   have HER:Hi (wg5 h U t=(false,t.2.1,wa9 U t.2.2)):=by unfold Hi;rw[HF.o,if_pos HBB.o.symm]
   obtain⟨k,hk⟩:∃k,n1=k+1:=by
    cases hn:n1 with
    | zero =>
     have h1:=zz9 (t:=t) (h:=h) (List.eq_nil_of_length_eq_zero (by rw[<-HQQ.o.2,hn]));rw[<-HBB.o]at h1;cases h1
    | succ k=>exact⟨k,rfl⟩
   have HKN:Hi (t.2.2.length=k+1):=by rw[<-HQQ.o.2];exact hk
   have HKB:Hi (k<1000000000000000):=by have h1:=HB.o.2;have h2:=HKN.o;unfold Hi;omega
   go_upto_region 6 with (fail)
   subst hk;obtain⟨g2,cc,e2,_⟩:=HO3.o.form oM
   injection e2 with e3 _ e4
   subst e3 e4;obtain⟨x,hx⟩:∃x,t.2.2[k]?=some x:=⟨_,List.getElem?_eq_getElem (by rw[HKN.o];omega)⟩;have HX:=hid hx;have HR1:Hi (w3.cell? ⟨g2,k*2+1,none⟩=some (nI x.2)):=by have h1:=HO3.o.cells (g:=g2) rfl _ _ (zi1 _ _ _ hx).2;rw[zb7,Nat.zero_add]at h1;exact h1
   have HL2':Hi (g2<w3.heap.size):=(HO3.o.lt g2 rfl).2;have kw3:wrap64 (((k+1:Nat):Int)-1)=(k:Int):=by have:=HKB.o;unfold wrap64;omega
   have kw2:wrap64 (k:Int)=(k:Int):=by have:=HKB.o;unfold wrap64;omega
   first | rw[kw3] | rw[kw2]
   have HSS:Hi (∀Y,Ok w3 Y->Y.cell? (aD gp 2)=some (.slice (sA g2 0) (k+1) b2)/\gp<Y.heap.size/\Y.cell? ⟨g2,k*2+1,none⟩=some (nI x.2)/\g2<Y.heap.size/\Y.cell? (aD ge 0)=some (nI U)/\ge<Y.heap.size):=λY hY=>⟨hY.cell (p:=⟨gp,2,none⟩) lgp c2,lL_ lgp hY.le,hY.cell (p:=⟨g2,k*2+1,none⟩) HL2'.o HR1.o,lL_ HL2'.o hY.le,hY.cell (p:=⟨ge,0,none⟩) x3 x1,lL_ x3 hY.le⟩;clear hx kw2 kw3 c0 c1 c2 c3 c4 c5 d0 d1 d2 d3 d4 d5 lgp lgr x0 x1 x2 x3;have S0:Ok w3 w3.drew:=Below.drew (Ok.refl _);obtain⟨M,hM⟩:∃z:Int,z=if U-1<x.2 then U-1 else x.2:=⟨_,rfl⟩;have HMM:=hid hM.symm
   have HM:Hi (M+1=if x.2<U then x.2+1 else U):=by unfold Hi;rw[hM];split<;>split<;>omega
   have HMB:Hi (-9223372036854775808<=M/\M<=1000):=by have h1:=HLW.o x (List.mem_of_getElem? HX.o);have h2:=HU.o;unfold Hi;rw[hM];split<;>omega
   clear hM;refine zd5 (λY=>Ok w3 Y) 15 kR ?_;refine tK 0 (pA gp 2) S0 ?_;simp only[pu];refine tL 1 (.slice (sA g2 0) (k+1) b2) S0 ?_ ?_
   ·intro w' s0;obtain⟨z1,z2,z3,z4,z5,z6⟩:=HSS.o w' s0;clear s0;go_simp;try with_reducible rfl
   simp only[pu];refine tK 2 (nI (k:Int)) S0 ?_;simp only[pu];refine tK 3 (pA gp 2) S0 ?_;simp only[pu];refine tL 4 (.slice (sA g2 0) (k+1) b2) S0 ?_ ?_
   ·intro w' s0;obtain⟨z1,z2,z3,z4,z5,z6⟩:=HSS.o w' s0;clear s0;go_simp;try with_reducible rfl
   simp only[pu];refine tK 5 (nI (k:Int)) S0 ?_;simp only[pu];refine tL 6 (.pointer (some ⟨g2,k*2,none⟩)) S0 ?_ ?_
   ·intro w' s0;clear s0;have z7:(k:Int)<((k+1:Nat):Int):=oM;have z8:(0:Int)<=(k:Int):=oM;have z9:¬((k:Int)+1<=(k:Int)):=oM;go_simp;try with_reducible rfl
   simp only[pu];refine tK 7 (.pointer (some ⟨g2,k*2+1,none⟩)) S0 ?_;simp only[pu];refine tL 8 (nI x.2) S0 ?_ ?_
   ·intro w' s0;obtain⟨z1,z2,z3,z4,z5,z6⟩:=HSS.o w' s0;clear s0;go_simp;try with_reducible rfl
   simp only[pu];refine tL 9 (nI U) S0 ?_ ?_
   ·intro w' s0;obtain⟨z1,z2,z3,z4,z5,z6⟩:=HSS.o w' s0;clear s0;go_simp;try with_reducible rfl
   simp only[pu];refine tL 10 (nI (U-1)) S0 ?_ ?_
   ·intro w' s0;clear s0;have u1:IntKind.i64.wrap (U-1)=U-1:=(by have:=HU.o;rw[IntKind.wrap_i64];omega);have u2:wrap64 (U-1)=U-1:=(by have:=HU.o;unfold wrap64;omega);go_simp;try with_reducible rfl
   simp only[pu];refine tL 11 (nI M) S0 ?_ ?_
   ·intro w' s0;clear s0;have hM1:=HMM.o;go_simp;(try (rw[<-hM1];split<;>omega));try with_reducible rfl
   simp only[pu];refine tL 12 (nI (M+1)) S0 ?_ ?_
   ·intro w' s0;clear s0;have u1:IntKind.i64.wrap (M+1)=M+1:=(by have:=HMB.o;rw[IntKind.wrap_i64];omega);have u2:wrap64 (M+1)=M+1:=(by have:=HMB.o;unfold wrap64;omega);go_simp;try with_reducible rfl
   simp only[pu];refine zb0 (i:=13) kR rfl (λK hK=>?_);go_simp;rw[if_pos (show(k:Int)<(k:Int)+1 by omega)];go_simp;refine hK.out _ _ (λ_=>S0) ?_;clear hK K;refine zb0 (i:=14) kR rfl (λK hK=>?_);go_simp;refine hK.out _ _ (λ_=>S0) ?_;clear hK K;have HO4:=hid (za1 HO3.o S0);have HH4:=hid (za1 HH3.o S0);have HP4:Hi _:=Ok.row' S0 HP3.o;have HR4:Hi _:=Ok.row' S0 HR3.o;have HK4:=hid (HK3.o.step S0);obtain⟨W4,hW4⟩:=qq (w3.drew);rw[<-hW4]at HO4 HH4 HP4 HR4 HK4;have r1:W4.cell? ⟨g2,k*2+1,none⟩=some (nI x.2):=by rw[hW4];exact(HSS.o _ S0).2.2.1
   have fr:W4.frozen? ⟨g2,k*2+1,none⟩=false:=by
    rcases HO4.o.2 with ⟨e1,_⟩ | ⟨g',cap,cur,e1,_,hgg,_⟩
    ·cases e1
    injection e1 with e5 _ _
    injection e5 with e5
    injection e5 with e5
    subst e5;exact frozen_of_row _ _ _ _ _ hgg
   have lg2:g2<W4.heap.size:=(HO4.o.lt g2 rfl).2;rw[<-hW4];clear hW4;refine zb0 (i:=15) kR rfl (λK hK=>?_);go_simp;refine hK.out _ _ (λh=>absurd rfl h) ?_;clear hK K;refine zd4 kR ?_ _;have HN2:Hi (W.heap.size<=g2):=(HO4.o.lt g2 rfl).1;obtain⟨W5,hW5⟩:=qq (W4.setCell ⟨g2,k*2+1,none⟩ (nI (M+1)));rw[<-hW5];have HP5:Hi (W5.heap[gp]?=some (.cells #[Value.bool false,Value.slice a1 q1 b1,Value.slice (sA g2 0) (k+1) b2] 28 (0,0))):=by rw[hW5];exact(Below.heap_setCell _ _ _ _ (by have h1:=HN2.o;have h2:=HW1.o;show gp≠g2;omega)).trans HP4.o
   have HR5:Hi (W5.heap[gr]?=some (.cells #[Value.bool false,sZ,sZ] 28 (0,0))):=by rw[hW5];exact(Below.heap_setCell _ _ _ _ (by have h1:=HN2.o;have h2:=HW1.o;show gr≠g2;omega)).trans HR4.o
   have HO5:Hi (W5.ownsRow W.heap.size 45 2 (.slice (sA g2 0) (k+1) b2) (k+1) ((lpL t.2.2).set (k*2+1) (nI (M+1)))):=by rw[hW5];exact zA1 HO4.o _ (by omega)
   have HH5:Hi (W5.ownsRow W.heap.size 3 1 (.slice a1 q1 b1) q1 (ilL t.2.1)):=by
    unfold Hi;rw[hW5];refine zc7 HH4.o (λe=>?_) _;obtain⟨c1,f1,z1⟩:=zf9 HH4.o g2 e;obtain⟨c2,f2,z2⟩:=zf9 HO4.o g2 rfl;rw[z1]at z2
    injection z2 with z2
    injection z2 with _ z3
    exact absurd z3 dC
   have HK5:Hi (Ok w W5):=by rw[hW5];exact HK4.o.set (by have h1:=HN2.o;have h2:=HK.o.le;show w.heap.size<=g2;omega) _
   clear hW5 r1 fr lg2;obtain⟨c0,c1,c2,c3,c4,c5⟩:=za9 HP5.o;obtain⟨d0,d1,d2,d3,d4,d5⟩:=za9 HR5.o;have lgp:=za2 HP5.o;have lgr:=za2 HR5.o;go_wp2_with fail;(try simp only[Exit.inBlock,Exit.then]);refine bodyPost_ret (results_cell_row rfl _ _ gr 28 #[_,_,_] (0,0) _ rfl (zd9 HR5.o _ _ _) Tryz.underlying28 rfl CB) rfl ?_;refine⟨_,_,rfl,?_,HK5.o.set3 (by have:=HG.o;omega) _ _ _⟩;obtain⟨u1,u2⟩:=yD2 HKN.o HX.o U;rw[HER.o];refine⟨?_,?_⟩
   ·show World.ownsRow _ _ _ _ _ t.2.1.length (ilL t.2.1)
    rw[<-HQQ.o.1];exact za7 (zf6 HH5.o HW1.o.2.2 _ _ _) HK.o.le
   show World.ownsRow _ _ _ _ _ (wa9 U t.2.2).length (lpL (wa9 U t.2.2));rw[u1,u2,<-HM.o];exact za7 (zf6 HO5.o HW1.o.2.2 _ _ _) HK.o.le
end
end Go.Proofs.YtpongdpnbclchaaGreatDoor
