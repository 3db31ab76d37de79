import Derived.Test.YtihdgmiicfbbkaaGreatDoorKNd0
set_option linter.all false
set_option maxRecDepth 100000
namespace Go.Proofs.YtihdgmiicfbbkaaGreatDoor
open Go.RowKit Go.Maps
set_option maxHeartbeats 8000000 in
theorem yF3 {w0 w:World} {F:QPar} {p:Pl} {vv lv:Value} {vs:List Vx} {ls:List Lk} (h:QS w0 F w vv lv vs vs vs ls) (hF:QOk w0 F p) (hJ:VJ p vs) {k:Nat} (hk:k<=10000) (hd:(k:Int)=0\/∃ e∈p.es,e.to'=(k:Int)) (t:Tok) (hv lvv:Value) (ht:TokOwn w F.B hv lvv t) (hto:TokOk t) (htb:TkB vs.length t) (hlen:vs.length<=100000) :
  Calls Tryz.prog 35 #[pA F.gf 0,nI (k:Nat),.agg #[.bool t.1,hv,lvv]] w fun e w'=>QtIs w0 F p lv vs ls k t w vv e w':=by
 have HS:=hid h;have HF:=hid hF;have HJ:=hid hJ;have HD:=hid hd;have HT:=hid ht;have HO:Hi (TokOk t/\TkB vs.length t/\vs.length<=100000):=⟨hto,htb,hlen⟩;have HI:Hi (I64 (k:Int)):=by unfold Hi I64;omega
 obtain ⟨m,hm⟩:=qq (p.mgd (k:Int));have HM:Hi (m=p.mgd (k:Int)):=hm;obtain ⟨tl,z1,z2,z3⟩:=h.vo;obtain ⟨vo,vc,rfl⟩:=za0 z2;obtain ⟨vn,hvn⟩:=qq (vs.length);have HVN:Hi (vn=vs.length):=hvn;rw [<-hvn] at HS;rw [<-hvn];obtain ⟨ho,hc,rfl⟩:=za0 ht.hist;obtain ⟨lo,lc,rfl⟩:=za0 ht.loops;obtain ⟨q,hq⟩:=qq (t.2.1.length);obtain ⟨n,hn⟩:=qq (t.2.2.length);obtain ⟨tm,htm⟩:=qq (t.1);have HQ:Hi (tm=t.1):=htm;rw [<-hq,<-hn] at HT;rw [<-hq,<-hn,<-htm];obtain ⟨X,hX⟩:=qq (w.alloc (Obj.cells #[.bool tm,.slice ho q hc,.slice lo n lc] 100));obtain ⟨g5,hg5⟩:=qq (w.heap.size);have HKX:Hi (Ok w X):=by rw [hX];exact (Ok.refl w).alloc _
 have HR5:Hi (X.heap[g5]?=some (.cells #[.bool tm,.slice ho q hc,.slice lo n lc] 100 (0,0))):=by rw [hX,hg5];exact za3 _ _
 have HG5:Hi (g5=w.heap.size):=hg5;have HSX:=hid (HS.o.step HKX.o);have hmlk:(Instr.lookup 65 (.map (some F.gm)) (nI (k:Nat)) false).run Tryz.prog X=.ok (.bool m) X:=by rw [hm];exact (hF.mrg.ok HSX.o.ok).look Tryz.underlying65 HI.o.1 HI.o.2
 obtain ⟨c11,c18,c19,c20,c21,c22,cfz,lgf⟩:=HSX.o.cells hF;clear h hF hJ hk hd ht hto htb hlen hm hq hn htm z1 z2 z3 hvn;go_enter Tryz.func35,Tryz.ntmps35
 go_upto_region 1 with (fail)
 rw [<-hX,<-hg5];clear hX hg5
 go_upto_if 16 with (fail)
 obtain ⟨t',ht'⟩:=qq (p.tok (k:Int) t);have HTK:=hid ht';clear ht'
 go_cut [] from 11 to 77 (fun wx=>∃ (tb:Bool) (xo:Option Addr) (xn xc:Nat) (yo:Option Addr) (yn yc:Nat),Hi (Ok w wx/\wx.heap[g5]?=some (.cells #[.bool tb,.slice xo xn xc,.slice yo yn yc] 100 (0,0))/\tb=t'.1/\TokOwn wx F.B (.slice xo xn xc) (.slice yo yn yc) t'/\TokOk t'/\TkB vs.length t'))
 case first =>
  cases m with
  | false =>
   go_wp2_with fail
   go_meet
   case rel =>
    have e1:t'=t:=by rw [HTK.o];unfold Pl.tok;rw [if_neg (by rw [<-HM.o];decide)]
    rw [e1];exact ⟨_,_,_,_,_,_,_,HKX.o,HR5.o,HQ.o,HT.o.ok HKX.o,HO.o.1,HO.o.2.1⟩
  | true =>
   go_wp2_with (first | (refine za8 rfl 100 _ _ rfl g5 100 _ #[.bool true,sZ,sZ] (by rfl) (by rfl) HR5.o infTk rfl (by simp [Value.oneCell']) ?_) | fail)
   go_meet
   case rel =>
    have e1:t'=tokM:=by rw [HTK.o];unfold Pl.tok;rw [if_pos HM.o.symm]
    rw [e1];exact ⟨_,_,_,_,_,_,_,zd0 HKX.o (by have:=HG5.o;omega) _,setRow_heap _ _ _ _ _ _ HR5.o,rfl,⟨World.ownsRow_nil _ _ _ _,World.ownsRow_nil _ _ _ _⟩,fun _=>rfl,⟨by simp [tokM],by simp [tokM],by simp [tokM],by simp [tokM]⟩⟩
 obtain ⟨tb,xo,xn,xc,yo,yn,yc,HC⟩:=hcut;clear c11 c18 c19 c20 c21 c22 cfz lgf hmlk;have HSC:=hid (HS.o.step HC.o.1);have HTB:Hi (TkB 100000 t'):=HC.o.2.2.2.2.2.up HO.o.2.2
 have HCT:Hi (∀ Y,Ok wc Y->Y.cell? (aD g5 0)=some (.bool tb)/\Y.cell? (aD g5 1)=some (.slice xo xn xc)/\Y.cell? (aD g5 2)=some (.slice yo yn yc)/\g5<Y.heap.size):=fun Y hY=>by have h5:=Ok.row' hY HC.o.2.1;obtain ⟨b0,b1,b2,_⟩:=za9 h5;exact ⟨b0,b1,b2,za2 h5⟩
 have HKY:Hi (∀ Y,Ok wc Y->Calls Tryz.prog 65 #[.agg #[.bool tb,.slice xo xn xc,.slice yo yn yc]] Y fun e w'=>e=.returned (.string ⟨(keyT Lib.itoa t').toArray⟩)/\Ok Y w'):=fun Y hY=>by rw [HC.o.2.2.1];exact yA9 _ _ t' Y (HC.o.2.2.2.1.ok hY).is HTB.o (fun w' hw'=>HF.o.tab w' (Below.trans (HSC.o.ok.step hY) (hw'.mono (HSC.o.ok.step hY).le)))
 have HIT:Hi (∀ Y,Ok wc Y->Calls Tryz.prog 64 #[nI (k:Nat)] Y fun e w'=>e=.returned (.string ⟨(Lib.itoa (k:Int)).toArray⟩)/\Ok Y w'):=fun Y hY=>zB3 _ HI.o Y (HF.o.tab Y (HSC.o.ok.step hY));obtain ⟨s1,hs1⟩:=qq (Lib.itoa (k:Int));obtain ⟨s2,hs2⟩:=qq (s1++[32]);obtain ⟨s3,hs3⟩:=qq (keyT Lib.itoa t');obtain ⟨ks,hks⟩:=qq (s2++s3);have HKS:Hi (ks=keyV Lib.itoa ((k:Int),t')):=by unfold Hi keyV;rw [hks,hs2,hs1,hs3];simp
 have hl2:s2.length<=1000:=by rw [hs2,List.length_append,hs1];have:=Lib.itoa_length_le (k:Int) HI.o.1 HI.o.2;simp;omega
 have hl3:ks.length<=100000000:=by rw [HKS.o];exact Nat.le_trans (yG1 HI.o HTB.o) (by omega)
 have HA:Hi (∀ Y:World,(Op.stringOp .add ⟨s1.toArray⟩ ⟨#[32]⟩).run Tryz.prog Y=.ok (.string ⟨s2.toArray⟩) Y/\(Op.stringOp .add ⟨s2.toArray⟩ ⟨s3.toArray⟩).run Tryz.prog Y=.ok (.string ⟨ks.toArray⟩) Y):=fun Y=>⟨strA Y hs2 oM,strA Y hks oM⟩;rw [<-hs1] at HIT;rw [<-hs3] at HKY;clear hs1 hs2 hs3 hks hl2 hl3
 go_upto_region 3 with (fail)
 have S0:Ok wc wc.drew:=Below.drew (Ok.refl wc);refine zd5 (fun Y=>Ok wc Y) 6 kR ?_;obtain ⟨D,hD⟩:=qq (wc.drew);rw [<-hD] at S0 ⊢;clear hD;refine tL 0 (nI (k:Nat)) S0 ?_ ?_
 ·intro w' s0;clear s0;go_simp;try with_reducible rfl
 simp only [pu];refine tL 3 (.agg #[.bool tb,.slice xo xn xc,.slice yo yn yc]) S0 ?_ ?_
 ·intro w' s0;obtain ⟨z0,z1,z2,z3⟩:=HCT.o w' s0;clear s0;go_simp;try with_reducible rfl
 simp only [pu];refine zb0 (i:=1) kR rfl (fun K hK=>?_);go_simp;refine (HIT.o D S0).mono ?_;rintro e D1 ⟨rfl,hk1⟩;have S1:Ok wc D1:=S0.step hk1;refine hK.out _ _ (fun _=>S1) ?_;clear hK K hk1 S0
 try simp only [pu]
 refine tL 2 (.string ⟨s2.toArray⟩) S1 ?_ ?_
 ·intro w' s0;obtain ⟨A1,A2⟩:=HA.o w';clear s0;go_simp;try with_reducible rfl
 simp only [pu];refine zb0 (i:=4) kR rfl (fun K hK=>?_);go_simp;refine (HKY.o D1 S1).mono ?_;rintro e D2 ⟨rfl,hk2⟩;have S2:Ok wc D2:=S1.step hk2;refine hK.out _ _ (fun _=>S2) ?_;clear hK K hk2 S1
 try simp only [pu]
 refine tL 5 (.string ⟨ks.toArray⟩) S2 ?_ ?_
 ·intro w' s0;obtain ⟨A1,A2⟩:=HA.o w';clear s0;go_simp;try with_reducible rfl
 simp only [pu];refine zb0 (i:=6) kR rfl (fun K hK=>?_);go_simp;refine hK.out _ _ (fun h=>absurd rfl h) ?_;clear hK K;refine zd4 kR ?_ _;have HK2:Hi (Ok w D2):=HC.o.1.step S2;have HS2:=hid (HS.o.step HK2.o);have HR2:Hi (D2.heap[g5]?=_):=Ok.row' S2 HC.o.2.1;have HT2:Hi (TokOwn D2 F.B (.slice xo xn xc) (.slice yo yn yc) t'):=HC.o.2.2.2.1.ok S2;have HTO:Hi (tb=t'.1/\TokOk t'/\TkB vs.length t'):=⟨HC.o.2.2.1,HC.o.2.2.2.2⟩;clear S2 HCT HKY HIT HA HC HSC;obtain ⟨c11,c18,c19,c20,c21,c22,cfz,lgf⟩:=HS2.o.cells HF.o;have HKO:Hi (keyOf Tryz.prog 9 (.string ⟨ks.toArray⟩)=some (.string (keyV Lib.itoa ((k:Int),t')))):=by rw [HKS.o];exact yI2 (Nat.le_trans (yG1 HI.o HTB.o) (by omega))
 have HLK:Hi ((Instr.lookup 67 (.map (some F.ga)) (.string ⟨ks.toArray⟩) true).run Tryz.prog D2=.ok (.tuple #[nI ((kyF vs (.string ⟨ks.toArray⟩)).getD 0),.bool (kyF vs (.string ⟨ks.toArray⟩)).isSome]) D2):=HS2.o.mp.look_ok law9 Tryz.underlying67 HKO.o;have HTF:Hi (kyF vs (.string ⟨ks.toArray⟩)=(look vs ((k:Int),t')).map fun j=>(j:Int)):=by rw [HKS.o];exact yG8 HJ.o.tok HTO.o.2.1
 cases hl:look vs ((k:Int),t') with
 | some j =>
  have hlk:(Instr.lookup 67 (.map (some F.ga)) (.string ⟨ks.toArray⟩) true).run Tryz.prog D2=.ok (.tuple #[nI (j:Nat),.bool true]) D2:=by have h1:=HLK.o;rw [HTF.o,hl] at h1;exact h1
  have HV:Hi (p.vert vs (k:Int) t=some (vs,j)):=by unfold Hi Pl.vert;rw [<-HTK.o,hl]
  clear hl;go_wp2_with fail;(try simp only [Exit.inBlock,Exit.then]);refine bodyPost_ret (results_tmp2 rfl _ _ _) rfl ?_;unfold QtIs;rw [HV.o];exact ⟨rfl,_,HS2.o,HJ.o,VK.ok HK2.o⟩
 | none =>
  have hlk:(Instr.lookup 67 (.map (some F.ga)) (.string ⟨ks.toArray⟩) true).run Tryz.prog D2=.ok (.tuple #[nI 0,.bool false]) D2:=by have h1:=HLK.o;rw [HTF.o,hl] at h1;exact h1
  have HL:Hi (look vs ((k:Int),t')=Option.none):=hl;obtain ⟨c,hc9⟩:=qq (many vs (k:Int));have HC:Hi (c=many vs (k:Int)):=hc9;clear hl hc9;by_cases hcc:c=p.cap
  ·have hb:((c:Int)==(p.cap:Int))=true:=by rw [hcc];simp
   have HV:Hi (p.vert vs (k:Int) t=Option.none):=by unfold Hi Pl.vert;rw [<-HTK.o,HL.o];show (if many vs (k:Int)=p.cap then Option.none else _)=_;rw [<-HC.o,if_pos hcc]
   clear hcc
   go_upto_region 7 with (fail)
   clear c11 c18 c19 c20 c21 c22 cfz lgf hlk;refine wp_region_held_drew (S:=fun w'=>Ok D2 w') kR (Below.drew (Ok.refl _)) (fun S0=>?_);obtain ⟨D3,hD⟩:=qq (D2.drew);rw [<-hD] at S0 ⊢;clear hD;refine tH 0 (pA F.gf 0) ?_ S0 ?_
   ·intro w' s0;clear s0;go_simp;try with_reducible rfl
   simp only [pu];refine tH 1 (pA F.gf 0) ?_ S0 ?_
   ·intro w' s0;obtain ⟨u11,u18,u19,u20,u21,u22,ufz,ulg⟩:=(HS2.o.step s0).cells HF.o;clear s0;go_simp;try with_reducible rfl
   simp only [pu];refine tH 2 (pA F.gf 22) ?_ S0 ?_
   ·intro w' s0;obtain ⟨u11,u18,u19,u20,u21,u22,ufz,ulg⟩:=(HS2.o.step s0).cells HF.o;clear s0;go_simp;try with_reducible rfl
   simp only [pu];refine tH 3 (.map (some F.gn)) ?_ S0 ?_
   ·intro w' s0;obtain ⟨u11,u18,u19,u20,u21,u22,ufz,ulg⟩:=(HS2.o.step s0).cells HF.o;clear s0;go_simp;try with_reducible rfl
   simp only [pu];refine tH 4 (nI (k:Nat)) ?_ S0 ?_
   ·intro w' s0;clear s0;go_simp;try with_reducible rfl
   simp only [pu];refine tH 5 (nI (c:Nat)) ?_ S0 ?_
   ·intro w' s0;have hl5:=(HS2.o.nm.ok s0).look Tryz.underlying68 HI.o.1 HI.o.2;rw [<-HC.o] at hl5;clear s0;go_simp;try with_reducible rfl
   simp only [pu];refine tH 6 (pA F.gf 0) ?_ S0 ?_
   ·intro w' s0;clear s0;go_simp;try with_reducible rfl
   simp only [pu];refine tH 7 (pA F.gf 0) ?_ S0 ?_
   ·intro w' s0;obtain ⟨u11,u18,u19,u20,u21,u22,ufz,ulg⟩:=(HS2.o.step s0).cells HF.o;clear s0;go_simp;try with_reducible rfl
   simp only [pu];refine tH 8 (pA F.gf 9) ?_ S0 ?_
   ·intro w' s0;obtain ⟨u11,u18,u19,u20,u21,u22,ufz,ulg⟩:=(HS2.o.step s0).cells HF.o;clear s0;go_simp;try with_reducible rfl
   simp only [pu];refine tH 9 (pA F.gf 11) ?_ S0 ?_
   ·intro w' s0;obtain ⟨u11,u18,u19,u20,u21,u22,ufz,ulg⟩:=(HS2.o.step s0).cells HF.o;clear s0;go_simp;try with_reducible rfl
   simp only [pu];refine tH 10 (nI (p.cap:Nat)) ?_ S0 ?_
   ·intro w' s0;obtain ⟨u11,u18,u19,u20,u21,u22,ufz,ulg⟩:=(HS2.o.step s0).cells HF.o;clear s0;go_simp;try with_reducible rfl
   simp only [pu];refine tH 11 (.bool true) ?_ S0 ?_
   ·intro w' s0;clear s0;go_simp;try with_reducible rfl
   simp only [pu];refine wpAnyH_done kR ?_ _;have HK3:Hi (Ok w D3):=HK2.o.step S0;have HS3:=hid (HS2.o.step S0);have HR3:Hi (D3.heap[g5]?=_):=Ok.row' S0 HR2.o;have HT3:Hi (TokOwn D3 F.B (.slice xo xn xc) (.slice yo yn yc) t'):=HT2.o.ok S0;clear S0 HS2 HR2 HT2 HK2 HLK;obtain ⟨c11,c18,c19,c20,c21,c22,cfz,lgf⟩:=HS3.o.cells HF.o;go_wp2_with fail;(try simp only [Exit.inBlock,Exit.then]);refine bodyPost_ret (results_tmp2 rfl _ _ _) rfl ?_;unfold QtIs;rw [HV.o];exact ⟨rfl,HS3.o,VK.ok HK3.o⟩
  have hb:((c:Int)==(p.cap:Int))=false:=by rw [beq_eq_false_iff_ne];omega
  have HNC:Hi (¬c=p.cap):=hcc;have HCB:Hi (c<=10):=by have h1:=HJ.o.vi.cnt (k:Int);have h2:=HC.o;have h3:=HF.o.small;unfold Hi;omega
  have kw:IntKind.i64.wrap ((c:Int)+1)=(c:Int)+1:=by have:=HCB.o;rw [IntKind.wrap_i64];omega
  clear hcc
  go_upto_region 7 with (fail)
  clear c11 c18 c19 c20 c21 c22 cfz lgf hlk;refine wp_region_held_drew (S:=fun w'=>Ok D2 w') kR (Below.drew (Ok.refl _)) (fun S0=>?_);obtain ⟨D3,hD⟩:=qq (D2.drew);rw [<-hD] at S0 ⊢;clear hD;refine tH 0 (pA F.gf 0) ?_ S0 ?_
  ·intro w' s0;clear s0;go_simp;try with_reducible rfl
  simp only [pu];refine tH 1 (pA F.gf 0) ?_ S0 ?_
  ·intro w' s0;obtain ⟨u11,u18,u19,u20,u21,u22,ufz,ulg⟩:=(HS2.o.step s0).cells HF.o;clear s0;go_simp;try with_reducible rfl
  simp only [pu];refine tH 2 (pA F.gf 22) ?_ S0 ?_
  ·intro w' s0;obtain ⟨u11,u18,u19,u20,u21,u22,ufz,ulg⟩:=(HS2.o.step s0).cells HF.o;clear s0;go_simp;try with_reducible rfl
  simp only [pu];refine tH 3 (.map (some F.gn)) ?_ S0 ?_
  ·intro w' s0;obtain ⟨u11,u18,u19,u20,u21,u22,ufz,ulg⟩:=(HS2.o.step s0).cells HF.o;clear s0;go_simp;try with_reducible rfl
  simp only [pu];refine tH 4 (nI (k:Nat)) ?_ S0 ?_
  ·intro w' s0;clear s0;go_simp;try with_reducible rfl
  simp only [pu];refine tH 5 (nI (c:Nat)) ?_ S0 ?_
  ·intro w' s0;have hl5:=(HS2.o.nm.ok s0).look Tryz.underlying68 HI.o.1 HI.o.2;rw [<-HC.o] at hl5;clear s0;go_simp;try with_reducible rfl
  simp only [pu];refine tH 6 (pA F.gf 0) ?_ S0 ?_
  ·intro w' s0;clear s0;go_simp;try with_reducible rfl
  simp only [pu];refine tH 7 (pA F.gf 0) ?_ S0 ?_
  ·intro w' s0;obtain ⟨u11,u18,u19,u20,u21,u22,ufz,ulg⟩:=(HS2.o.step s0).cells HF.o;clear s0;go_simp;try with_reducible rfl
  simp only [pu];refine tH 8 (pA F.gf 9) ?_ S0 ?_
  ·intro w' s0;obtain ⟨u11,u18,u19,u20,u21,u22,ufz,ulg⟩:=(HS2.o.step s0).cells HF.o;clear s0;go_simp;try with_reducible rfl
  simp only [pu];refine tH 9 (pA F.gf 11) ?_ S0 ?_
  ·intro w' s0;obtain ⟨u11,u18,u19,u20,u21,u22,ufz,ulg⟩:=(HS2.o.step s0).cells HF.o;clear s0;go_simp;try with_reducible rfl
  simp only [pu];refine tH 10 (nI (p.cap:Nat)) ?_ S0 ?_
  ·intro w' s0;obtain ⟨u11,u18,u19,u20,u21,u22,ufz,ulg⟩:=(HS2.o.step s0).cells HF.o;clear s0;go_simp;try with_reducible rfl
  simp only [pu];refine tH 11 (.bool false) ?_ S0 ?_
  ·intro w' s0;clear s0;go_simp;try with_reducible rfl
  simp only [pu];refine wpAnyH_done kR ?_ _;have HK3:Hi (Ok w D3):=HK2.o.step S0;have HS3:=hid (HS2.o.step S0);have HR3:Hi (D3.heap[g5]?=_):=Ok.row' S0 HR2.o;have HT3:Hi (TokOwn D3 F.B (.slice xo xn xc) (.slice yo yn yc) t'):=HT2.o.ok S0;clear S0 HS2 HR2 HT2 HK2 HLK;obtain ⟨c11,c18,c19,c20,c21,c22,cfz,lgf⟩:=HS3.o.cells HF.o;have hlk9:(Instr.lookup 68 (.map (some F.gn)) (nI (k:Nat)) false).run Tryz.prog D3=.ok (nI (c:Nat)) D3:=by have h:=HS3.o.nm.look Tryz.underlying68 HI.o.1 HI.o.2;rw [<-HC.o] at h;exact h
  obtain ⟨D4,hput,hn4,hg4⟩:=HS3.o.nm.put Tryz.underlying68 (x:=(k:Int)) HI.o.1 HI.o.2 (z:=(c:Int)+1) oM (by have:=HCB.o;omega) (by have:=HO.o.2.2;unfold maxLen;omega)
  have e4:(fun y:Int=>if y=(k:Int) then (c:Int)+1 else (many vs y:Int))=fun n=>(many (vs++[((k:Int),t')]) n:Int):=by
   funext y
   rw [zP5];by_cases hy:y=(k:Int)
   ·subst hy;simp [HC.o]
   have hy':¬(k:Int)=y:=fun e=>hy e.symm;rw [if_neg hy,if_neg (show ¬(((k:Int),t'):Vx).1=y from hy')];simp
  rw [e4] at hn4;have HS4:=hid (HS3.o.count HF.o hn4 hg4);have HG:Hi (g5≠F.gn/\g5≠F.gf/\g5≠F.ga/\F.B<=g5):=by have h1:=HG5.o;have h2:=HS.o.le;have h3:=HF.o.fB;have h4:=HF.o.aB;have h5:=HF.o.nB;unfold Hi;omega
  have HR4:Hi (D4.heap[g5]?=_):=(hg4.block g5 (za2 HR3.o) (fun e=>HG.o.1 (Option.some.inj e))).trans HR3.o;have HT4:Hi (TokOwn D4 F.B (.slice xo xn xc) (.slice yo yn yc) t'):=HT3.o.kept hg4 HF.o.nB;have HV4:Hi (VK F.F w (.slice vo vn vc) D4 (.slice vo vn vc)):=⟨Nat.le_trans HK3.o.le hg4.size,fun b o h0 h1 h2 h3 h4=>(hg4.block b (za2 (Ok.row' HK3.o h0)) (fun e=>h3 (Option.some.inj e))).trans (Ok.row' HK3.o h0),fun b e=>.inl e⟩;clear e4 hn4 hg4
  go_upto_region 10 with (fail)
  clear c11 c18 c19 c20 c21 c22 cfz lgf hput hlk9 kw;obtain ⟨c11,c18,c19,c20,c21,c22,cfz,lgf⟩:=HS4.o.cells HF.o;obtain ⟨D5,hput,hm5,hg5'⟩:=HS4.o.mp.put (f':=kyF (vs++[((k:Int),t')])) law9 Tryz.underlying67 HKO.o (y:=(vn:Nat)) (by omega) (by have:=HO.o.2.2;have:=HVN.o;omega) (by have:=HO.o.2.2;unfold maxLen;omega) (by rw [HKS.o,HVN.o];exact yI0 HJ.o.tok HTO.o.2.1 HL.o) (by intro u hu;rw [HKS.o] at hu;exact yI1 hu);have HS5:=hid (HS4.o.put HF.o hm5 hg5');have HR5':Hi (D5.heap[g5]?=_):=(hg5'.block g5 (za2 HR4.o) (fun e=>HG.o.2.2.1 (Option.some.inj e))).trans HR4.o;have HT5:Hi (TokOwn D5 F.B (.slice xo xn xc) (.slice yo yn yc) t'):=HT4.o.kept hg5' HF.o.aB;have HV5:Hi (VK F.F w (.slice vo vn vc) D5 (.slice vo vn vc)):=⟨Nat.le_trans HV4.o.size hg5'.size,fun b o h0 h1 h2 h3 h4=>(hg5'.block b (za2 (HV4.o.far b o h0 h1 h2 h3 h4)) (fun e=>h2 (Option.some.inj e))).trans (HV4.o.far b o h0 h1 h2 h3 h4),fun b e=>.inl e⟩;clear hm5 hg5' HS4 HR4 HT4 HV4
  go_upto_region 12 with (fail)
  clear c11 c18 c19 c20 c21 c22 cfz lgf hput;obtain ⟨tl,htl,hvo,hold⟩:=HS5.o.vo;rw [<-HVN.o] at hvo;have HVO:Hi (tl.length=vs.length/\D5.ownsRow F.B 105 4 (.slice vo vn vc) vn (vxL vs tl)/\∀ (i:Nat) (v:Vx) (x:Value×Value),vs[i]?=some v->tl[i]?=some x->TokOwn D5 F.B x.1 x.2 v.2):=⟨htl,hvo,hold⟩;clear htl hvo hold;obtain ⟨_,_,d19,_,_,_,dfz,lgf⟩:=HS5.o.cells HF.o;obtain ⟨b0,b1,b2,b3,b4,b5⟩:=za9 HR5'.o;have lgb:=za2 HR5'.o;have S0:(D5.drew.cell? (aD F.gf 19)=some (.slice vo vn vc)/\D5.drew.cell? (aD g5 0)=some (.bool tb)/\D5.drew.cell? (aD g5 1)=some (.slice xo xn xc)/\D5.drew.cell? (aD g5 2)=some (.slice yo yn yc)/\F.gf<D5.drew.heap.size/\g5<D5.drew.heap.size):=⟨d19,b0,b1,b2,lgf,lgb⟩;clear b0 b1 b2 b3 b4 b5 lgb d19 dfz lgf;refine zd5 (fun Y=>(Y.cell? (aD F.gf 19)=some (.slice vo vn vc)/\Y.cell? (aD g5 0)=some (.bool tb)/\Y.cell? (aD g5 1)=some (.slice xo xn xc)/\Y.cell? (aD g5 2)=some (.slice yo yn yc)/\F.gf<Y.heap.size/\g5<Y.heap.size)) 12 kR ?_;refine tL 0 (pA F.gf 0) S0 ?_ ?_
  ·intro w' s0;clear s0;go_simp;try with_reducible rfl
  simp only [pu];refine tL 1 (pA F.gf 0) S0 ?_ ?_
  ·intro w' s0;clear s0;go_simp;try with_reducible rfl
  simp only [pu];refine tL 2 (pA F.gf 0) S0 ?_ ?_
  ·intro w' s0;clear s0;go_simp;try with_reducible rfl
  simp only [pu];refine tL 3 (pA F.gf 19) S0 ?_ ?_
  ·intro w' s0;clear s0;go_simp;try with_reducible rfl
  simp only [pu];refine tL 4 (.slice vo vn vc) S0 ?_ ?_
  ·intro w' s0;obtain ⟨q1,q2,q3,q4,q5,q6⟩:=s0;go_simp;try with_reducible rfl
  simp only [pu];refine tL 5 (nI (k:Nat)) S0 ?_ ?_
  ·intro w' s0;clear s0;go_simp;try with_reducible rfl
  simp only [pu];refine tL 6 (.agg #[.bool tb,.slice xo xn xc,.slice yo yn yc]) S0 ?_ ?_
  ·intro w' s0;obtain ⟨q1,q2,q3,q4,q5,q6⟩:=s0;go_simp;try with_reducible rfl
  simp only [pu];refine tL 7 (.agg #[nI (k:Nat),.bool tb,.slice xo xn xc,.slice yo yn yc]) S0 ?_ ?_
  ·intro w' s0;clear s0;go_simp;try with_reducible rfl
  simp only [pu];refine zb0 (i:=8) kR rfl (fun K hK=>?_);go_simp;obtain ⟨W4,hW4⟩:=qq ((D5.alloc (Obj.cells #[nI (k:Nat),.bool tb,.slice xo xn xc,.slice yo yn yc] 105)).drew);have HK4:Hi (Ok D5 W4):=by rw [hW4];exact Below.drew ((Ok.refl D5).alloc _)
  have HSL:Hi (SL W4 4 (.slice (sA D5.heap.size 0) 1 1) 1 [nI (k:Nat),Value.bool tb,Value.slice xo xn xc,Value.slice yo yn yc]):=by rw [hW4];exact SL.one D5 105 [nI (k:Nat),Value.bool tb,Value.slice xo xn xc,Value.slice yo yn yc] rfl (by simp [Value.oneCell'])
  rw [<-hW4];clear hW4 S0;have HS4:=hid (HS5.o.step HK4.o);have HV4:Hi (W4.ownsRow F.B 105 4 (.slice vo vn vc) vn (vxL vs tl)):=za1 HVO.o.2.1 HK4.o;have HB4:Hi (W4.heap[g5]?=_):=Ok.row' HK4.o HR5'.o;obtain ⟨_,_,d19,_,_,_,dfz,lgf4⟩:=HS4.o.cells HF.o;obtain ⟨b0,b1,b2,b3,b4,b5⟩:=za9 HB4.o;have lgb:=za2 HB4.o;refine hK.out _ _ (fun _=>⟨d19,b0,b1,b2,lgf4,lgb⟩) ?_;clear hK K;refine zb0 (i:=9) kR rfl (fun K hK=>?_);refine zn6 rfl _ _ 40 105 4 64 _ rfl Tryz.underlying40 infTk3 (by rfl) dC dC F.B (.slice vo vn vc) vn (vxL vs tl) (by rfl) HV4.o (.slice (sA D5.heap.size 0) 1 1) 1 [nI (k:Nat),Value.bool tb,Value.slice xo xn xc,Value.slice yo yn yc] (by rfl) HSL.o dC (by have:=HO.o.2.2;have:=HVN.o;omega) HS4.o.le ?_;intro v9 w9 k1 k2 k3;have HA9:=hid k3;clear k3;have HV9:=hid k1;have HG9:=hid k2;obtain ⟨vo9,vc9,rfl⟩:=za0 k1;have HF9:Hi (w9.heap[F.gf]?=some (.cells (F.row (.slice vo vn vc) lv) 70 (0,0))):=(k2.block F.gf lgf4 (fun e=>zf4 HV4.o HF.o.fB e.symm)).trans HS4.o.row;have HB9:Hi (w9.heap[g5]?=_):=(k2.block g5 lgb (fun e=>zb6 HV4.o HB4.o dC e.symm)).trans HB4.o;clear k1 k2 d19 dfz lgf4 b0 b1 b2 b3 b4 b5 lgb;have d19:w9.cell? (aD F.gf 19)=some (.slice vo vn vc):=(cell_of_row _ _ 19 _ _ _ HF9.o).trans rfl;have dfz:w9.frozen? (aD F.gf 19)=false:=frozen_of_row _ _ _ _ _ HF9.o;have lgf9:=za2 HF9.o;obtain ⟨b0,b1,b2,b3,b4,b5⟩:=za9 HB9.o;have lgb:=za2 HB9.o;refine hK.out _ _ (fun _=>⟨d19,b0,b1,b2,lgf9,lgb⟩) ?_;clear hK K;simp only [pu];refine zb0 (i:=10) kR rfl (fun K hK=>?_);go_simp;refine hK.out _ _ (fun _=>⟨d19,b0,b1,b2,lgf9,lgb⟩) ?_;clear hK K;refine zb0 (i:=11) kR rfl (fun K hK=>?_);go_simp;refine hK.out _ _ (fun _=>⟨d19,b0,b1,b2,lgf9,lgb⟩) ?_;clear hK K;refine zb0 (i:=12) kR rfl (fun K hK=>?_);go_simp;refine hK.out _ _ (fun h=>absurd rfl h) ?_;clear hK K;refine zd4 kR ?_ _;have HV4':Hi (W4.ownsRow F.B 105 4 (.slice vo vn vc) vs.length (vxL vs tl)):=by have h:=HV4.o;unfold Hi;rw [<-HVN.o];exact h
  have HSV:=hid (HS4.o.push HF.o (v:=((k:Int),t')) (x:=(.slice xo xn xc,.slice yo yn yc)) HVO.o.1 HV4'.o (fun i v x h1 h2=>(HVO.o.2.2 i v x h1 h2).ok HK4.o) (HT5.o.ok HK4.o) (by have h1:=HV9.o;rw [HTO.o.1] at h1;rw [<-HVN.o];exact h1) HG9.o)
  have HVV:Hi (VK F.F w (.slice vo vn vc) (w9.setCell (aD F.gf 19) (.slice vo9 (vn+1) vc9)) (.slice vo9 (vn+1) vc9)):=by
   have hv4:VK F.F w (.slice vo vn vc) W4 (.slice vo vn vc):=HV5.o.trans (VK.ok HK4.o);refine ⟨by have h1:=hv4.size;have h2:=HG9.o.size;simp;omega,fun b o h0 h1 h2 h3 h4=>zk3 ((HG9.o.block b (za2 (hv4.far b o h0 h1 h2 h3 h4)) (fun e=>h4 e.symm)).trans (hv4.far b o h0 h1 h2 h3 h4)) (p:=⟨F.gf,19,none⟩) h1 _,fun b e=>?_⟩;rcases HA9.o with h5 | h5
   ·exact .inl (h5 ▸ e)
   rw [e] at h5;exact .inr (by have:=Option.some.inj h5;have:=hv4.size;omega)
  have HV:Hi (p.vert vs (k:Int) t=some (vs++[((k:Int),t')],vn)):=by unfold Hi Pl.vert;rw [<-HTK.o,HL.o];show (if many vs (k:Int)=p.cap then Option.none else _)=_;rw [<-HC.o,if_neg HNC.o,HVN.o]
  go_wp2_with fail;(try simp only [Exit.inBlock,Exit.then]);refine bodyPost_ret (results_tmp2 rfl _ _ _) rfl ?_;unfold QtIs;rw [HV.o];exact ⟨rfl,_,HSV.o,HJ.o.add HTO.o.2.1 HTO.o.2.2 (zo5 HJ.o.vi HD.o HV.o).1,HVV.o⟩
end Go.Proofs.YtihdgmiicfbbkaaGreatDoor
