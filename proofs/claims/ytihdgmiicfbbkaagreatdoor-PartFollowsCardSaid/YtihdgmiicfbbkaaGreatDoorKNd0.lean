import Derived.Shelf.Strconv.Itoa3
import Derived.Test.YtihdgmiicfbbkaaGreatDoorKNc
set_option linter.all false
set_option maxRecDepth 100000
namespace Go.Proofs.YtihdgmiicfbbkaaGreatDoor
variable{N b:Nat}{f:Value->Bool}{k t:TypeId}{l:List (List UInt8)}{ls:List Lk}{lv vv:Value}{p:Int->Int}{r:Option Nat}{v:Vx}{vc vm vs:List Vx}{w w' w0:World}{x:Int}
section
open Go.Shelf Go.RowKit
def Tryz.laysM171_ren:Go.Shelf.Ren:={ Tryz.laysM176_ren with f:=fun | 171=>64 | 243=>95 | 246=>117 | n=>Tryz.laysM176_ren.f n }
theorem Tryz.laysM171:Go.Proofs.LaysM.n171 Tryz.prog Tryz.laysM171_ren:={ Tryz.laysM176 with
 f171:=Tryz.func64.trans (congrArg some kR)
 f243:=Tryz.func95.trans (congrArg some kR)
 f246:=Tryz.func117.trans (congrArg some kR)
 f129:=Tryz.func159.trans (congrArg some kR)
 f283:=Tryz.func144.trans (congrArg some kR)
 f284:=Tryz.func145.trans (congrArg some kR)
 f285:=Tryz.func146.trans (congrArg some kR)
 f286:=Tryz.func147.trans (congrArg some kR)
 f317:=Tryz.func158.trans (congrArg some kR)
 f318:=Tryz.func160.trans (congrArg some kR)
 f319:=Tryz.func161.trans (congrArg some kR)
 f320:=Tryz.func162.trans (congrArg some kR)
 f337:=Tryz.func170.trans (congrArg some kR)
 f338:=Tryz.func171.trans (congrArg some kR)
}
theorem zB3 (n:Int) (h:I64 n) (w:World) (htab:Lib.TabIs Tryz.prog w "internal/strconv.uint64pow10" .u64 Lib.pow10Tab) :
  Calls Tryz.prog 64 #[nI n] w fun e w'=>e=.returned (.string ⟨(Lib.itoa n).toArray⟩)/\Ok w w':=by
 refine (Any.strconv_Itoa Tryz.laysM171 n h.1 h.2 w htab).mono ?_;rintro e w' ⟨rfl,k,os,rfl⟩;exact ⟨rfl,Lib.below_grow _ w (nR_ _) k os⟩
theorem strA (w:World) {a b c:List UInt8} (e:c=a++b) (h:c.length<=9223372036854775807):(Op.stringOp .add ⟨a.toArray⟩ ⟨b.toArray⟩).run Tryz.prog w=.ok (.string ⟨c.toArray⟩) w:=by rw [run_string_add_sum w _ _ (by rw [e,List.length_append] at h;simpa [ByteArray.size] using h),ByteArray.mk_append_mk,e]
theorem zr2:∀ (h:List Int),(∀ x∈h,I64 x)->(keyH Lib.itoa h).length<=22*h.length
 | [],_=>by simp [keyH]
 | x::xs,hx=>by have h1:=Lib.itoa_length_le x (hx x sI).1 (hx x sI).2;have h2:=zr2 xs fun y hy=>hx y (by simp [hy]);have e:keyH Lib.itoa (x::xs)=(Lib.itoa x++[32])++keyH Lib.itoa xs:=rfl;rw [e];simp only [List.length_append,List.length_cons,List.length_nil];omega
theorem zB4:∀ (h:List (Int×Int)),(∀ x∈h,I64 x.1/\I64 x.2)->(keyL Lib.itoa h).length<=44*h.length
 | [],_=>by simp [keyL]
 | x::xs,hx=>by have h0:=hx x sI;have h1:=Lib.itoa_length_le x.1 h0.1.1 h0.1.2;have h3:=Lib.itoa_length_le x.2 h0.2.1 h0.2.2;have h2:=zB4 xs fun y hy=>hx y (by simp [hy]);have e:keyL Lib.itoa (x::xs)=(Lib.itoa x.1++120::(Lib.itoa x.2++[32]))++keyL Lib.itoa xs:=rfl;rw [e];simp only [List.length_append,List.length_cons,List.length_nil];omega
theorem yh0 (D:Int->List UInt8) {h:List Int} {k:Nat} (hx:h[k]?=some x):keyH D (h.take (k+1))=keyH D (h.take k)++D x++[32]:=by unfold keyH;rw [List.take_add_one,hx];simp
theorem yh1 (D:Int->List UInt8) {l:List (Int×Int)} {k:Nat} {x:Int×Int} (hx:l[k]?=some x):keyL D (l.take (k+1))=keyL D (l.take k)++D x.1++[120]++D x.2++[32]:=by unfold keyL;rw [List.take_add_one,hx];simp
set_option maxHeartbeats 8000000 in
theorem yA9 (hv lv:Value) (t:Tok) (w:World) (ht:TokIs w hv lv t) (hb:TkB 100000 t) (htab:Lib.TabBelow Tryz.prog w.heap.size w "internal/strconv.uint64pow10" .u64 Lib.pow10Tab) :
  Calls Tryz.prog 65 #[.agg #[.bool t.1,hv,lv]] w fun e w'=>e=.returned (.string ⟨(keyT Lib.itoa t).toArray⟩)/\Ok w w':=by
 have HT:=hid ht;have HB:=hid hb;have HTB:Hi (∀ Y,Ok w Y->Lib.TabIs Tryz.prog Y "internal/strconv.uint64pow10" .u64 Lib.pow10Tab):=fun Y hY=>htab Y hY;obtain ⟨_,_,ho,hc,e1,_⟩:=ht.hist;obtain ⟨_,_,lo,lc,e2,_⟩:=ht.loops;obtain ⟨q,hq⟩:=qq (t.2.1.length);obtain ⟨n,hn⟩:=qq (t.2.2.length);have HN:Hi (q=t.2.1.length/\n=t.2.2.length):=⟨hq,hn⟩;rw [<-hq] at e1;rw [<-hn] at e2;subst e1 e2;clear ht hb htab hq hn
 cases hm:t.1 with
 | true =>
  have HE:Hi (keyT Lib.itoa t=wMerged):=by unfold Hi keyT;rw [if_pos hm]
  clear hm;go_enter Tryz.func65,Tryz.ntmps65;go_wp2_with fail;go_ret;exact ⟨by rw [HE.o];rfl,(Ok.refl w).alloc _⟩
 | false =>
  have HE:Hi (keyT Lib.itoa t=keyH Lib.itoa t.2.1++47::keyL Lib.itoa t.2.2):=by unfold Hi keyT;rw [if_neg (by rw [hm];decide)]
  clear hm;go_enter Tryz.func65,Tryz.ntmps65;go_wp2_with fail;obtain ⟨W,hW⟩:=qq (w.alloc (Obj.cells #[.bool false,.slice ho q hc,.slice lo n lc] 100));obtain ⟨gp,hgp⟩:=qq (w.heap.size);rw [<-hW,<-hgp];have HK:Hi (Ok w W):=by rw [hW];exact (Ok.refl w).alloc _
  have HP:Hi (W.heap[gp]?=some (.cells #[.bool false,.slice ho q hc,.slice lo n lc] 100 (0,0))):=by rw [hW,hgp];exact jj
  clear hW hgp;go_loopw [3,4] (fun t3 t4 wr=>∃ (k:Nat),t4=nI (k:Nat)/\k<=q/\t3=.string ⟨(keyH Lib.itoa (t.2.1.take k)).toArray⟩/\Hi (Ok W wr)) (fun _ t4 _=>((q:Int)-intOf t4).toNat)
  case atStart=>exact ⟨0,rfl,zL_ _,rfl,Ok.refl _⟩
  obtain ⟨k,rfl,hk,rfl,HR⟩:=hrel;have HP1:Hi _:=Ok.row' HR.o HP.o;obtain ⟨c0,c1,c2,c3,c4,c5⟩:=za9 HP1.o;have lgb:=za2 HP1.o;by_cases hkl:k<q
  ·obtain ⟨x,hx⟩:∃ x,t.2.1[k]?=some x:=⟨_,List.getElem?_eq_getElem (by rw [<-HN.o.1];exact hkl)⟩
   obtain ⟨b,o,cp,e1,e2,e3⟩:=HT.o.hist.at (by decide) (k:=k) (by rw [<-HN.o.1];exact hkl)
   injection e1 with e4 e6 e5
   clear e6;subst e4 e5;have r0:wr.cell? ⟨b,o+k,none⟩=some (nI x):=(HK.o.step HR.o).cell (p:=⟨b,o+k,none⟩) e2 (e3 _ _ (zk6 hx));have HX:Hi (t.2.1[k]?=some x):=hx;have HX6:Hi (I64 x):=HB.o.hi _ (mG_ hx);have hlt:(k:Int)<(q:Int):=za5 hkl;have kw:IntKind.i64.wrap ((k:Int)+1)=((k+1:Nat):Int):=zb3 (by have h1:=HB.o.hl;have h2:=HN.o.1;omega);obtain ⟨s,hs⟩:=qq (keyH Lib.itoa (t.2.1.take k));obtain ⟨s1,hs1⟩:=qq (s++Lib.itoa x);obtain ⟨s2,hs2⟩:=qq (s1++[32]);have HS:Hi (s2=keyH Lib.itoa (t.2.1.take (k+1))):=by unfold Hi;rw [yh0 _ hx,<-hs,hs2,hs1]
   have hz:s2.length<=22*100000:=by rw [HS.o];have h1:=zr2 (t.2.1.take (k+1)) fun y hy=>HB.o.hi y (List.mem_of_mem_take hy);have h2:=HB.o.hl;rw [List.length_take] at h1;omega
   have HA:Hi (∀ W,(Op.stringOp .add ⟨s.toArray⟩ ⟨(Lib.itoa x).toArray⟩).run Tryz.prog W=.ok (.string ⟨s1.toArray⟩) W/\(Op.stringOp .add ⟨s1.toArray⟩ ⟨#[32]⟩).run Tryz.prog W=.ok (.string ⟨s2.toArray⟩) W):=fun W=>⟨strA W hs1 (by rw [hs2,List.length_append] at hz;omega),strA W hs2 (by omega)⟩;rw [<-hs];clear e2 e3 hx hs hs1 hs2 hz;go_wp2_with fail;refine (zB3 x HX6.o wr (HTB.o wr (HK.o.step HR.o))).mono ?_;rintro e w1 ⟨rfl,hk1⟩;have HR1:Hi (Ok W w1):=HR.o.step hk1;obtain ⟨A1,A2⟩:=HA.o w1;clear hk1 c0 c1 c2 c3 c4 c5 lgb r0 HP1 HA;go_wp2_with fail;refine ⟨⟨k+1,rfl,hkl,by rw [HS.o],HR1⟩,?_⟩;simp only [intOf];omega
  have hlt:¬(k:Int)<(q:Int):=zb2 hkl;obtain ⟨s,hs⟩:=qq (keyH Lib.itoa (t.2.1.take k));obtain ⟨s1,hs1⟩:=qq (s++[47]);have hs3:s=keyH Lib.itoa t.2.1:=by rw [hs,List.take_of_length_le (by have:=HN.o.1;omega)]
  have HS1:Hi (s1=keyH Lib.itoa t.2.1++[47]):=by unfold Hi;rw [hs1,hs3]
  have hz:s.length<=22*100000:=by rw [hs3];have h1:=zr2 t.2.1 HB.o.hi;have h2:=HB.o.hl;omega
  have HZ:Hi (s1.length<=22*100000+1):=by unfold Hi;rw [hs1,List.length_append];simp;omega
  have A1:(Op.stringOp .add ⟨s.toArray⟩ ⟨#[47]⟩).run Tryz.prog wr=.ok (.string ⟨s1.toArray⟩) wr:=strA wr hs1 (by have:=HZ.o;omega);rw [<-hs];clear hs hs1 hs3 hz;go_wp2_with fail;obtain ⟨W3,hW3⟩:=qq (wr);subst hW3;go_loopw [3,5] (fun t3 t5 wr=>∃ (k:Nat) (s:List UInt8),t5=nI (k:Nat)/\k<=n/\t3=.string ⟨s.toArray⟩/\Hi (s=s1++keyL Lib.itoa (t.2.2.take k))/\Hi (Ok W wr)) (fun _ t5 _=>((n:Int)-intOf t5).toNat)
  case atStart=>exact ⟨0,s1,rfl,Nat.zero_le _,rfl,by simp [Hi,keyL],HR⟩
  clear c0 c1 c2 c3 c4 c5 lgb HP1 hlt hkl HR hk A1;obtain ⟨k,s,rfl,hk,rfl,HS,HR⟩:=hrel;have HP1:Hi _:=Ok.row' HR.o HP.o;obtain ⟨c0,c1,c2,c3,c4,c5⟩:=za9 HP1.o;have lgb:=za2 HP1.o;by_cases hkl:k<n
  ·obtain ⟨x,hx⟩:∃ x,t.2.2[k]?=some x:=⟨_,List.getElem?_eq_getElem (by rw [<-HN.o.2];exact hkl)⟩
   obtain ⟨b,o,cp,e1,e2,e3⟩:=HT.o.loops.at (by decide) (k:=k) (by rw [<-HN.o.2];exact hkl)
   injection e1 with e4 e6 e5
   clear e6;subst e4 e5;have HX6:Hi (I64 x.1/\I64 x.2):=HB.o.li _ (mG_ hx);have hlt:(k:Int)<(n:Int):=za5 hkl;have kw:IntKind.i64.wrap ((k:Int)+1)=((k+1:Nat):Int):=zb3 (by have h1:=HB.o.ll;have h2:=HN.o.2;omega)
   have HC:Hi (∀ Y,Ok wr Y->Y.cell? (aD gp 2)=some (.slice (sA b o) n lc)/\gp<Y.heap.size/\Y.cell? ⟨b,o+k*2,none⟩=some (nI x.1)/\Y.cell? ⟨b,o+k*2+1,none⟩=some (nI x.2)/\b<Y.heap.size):=fun Y hY=>by have hb2:b<wr.heap.size:=lL_ e2 (HK.o.step HR.o).le;refine ⟨hY.cell (p:=⟨gp,2,none⟩) lgb c2,lL_ lgb hY.le,((HK.o.step HR.o).step hY).cell (p:=⟨b,o+k*2,none⟩) e2 (e3 _ _ (zi1 _ _ _ hx).1),((HK.o.step HR.o).step hY).cell (p:=⟨b,o+k*2+1,none⟩) e2 (e3 (k*2+1) _ (zi1 _ _ _ hx).2),lL_ hb2 hY.le⟩
   obtain ⟨s3,hs3⟩:=qq (s++Lib.itoa x.1);obtain ⟨s4,hs4⟩:=qq (s3++[120]);obtain ⟨s5,hs5⟩:=qq (s4++Lib.itoa x.2);obtain ⟨s6,hs6⟩:=qq (s5++[32]);have HS6:Hi (s6=s1++keyL Lib.itoa (t.2.2.take (k+1))):=by unfold Hi;rw [yh1 _ hx,hs6,hs5,hs4,hs3,HS.o];simp
   have hz:s6.length<=66*100000+1:=by rw [HS6.o,List.length_append];have h1:=zB4 (t.2.2.take (k+1)) fun y hy=>HB.o.li y (List.mem_of_mem_take hy);have h2:=HB.o.ll;have h3:=HZ.o;rw [List.length_take] at h1;omega
   have HA:Hi (∀ W,(Op.stringOp .add ⟨s.toArray⟩ ⟨(Lib.itoa x.1).toArray⟩).run Tryz.prog W=.ok (.string ⟨s3.toArray⟩) W/\(Op.stringOp .add ⟨s3.toArray⟩ ⟨#[120]⟩).run Tryz.prog W=.ok (.string ⟨s4.toArray⟩) W/\(Op.stringOp .add ⟨s4.toArray⟩ ⟨(Lib.itoa x.2).toArray⟩).run Tryz.prog W=.ok (.string ⟨s5.toArray⟩) W/\(Op.stringOp .add ⟨s5.toArray⟩ ⟨#[32]⟩).run Tryz.prog W=.ok (.string ⟨s6.toArray⟩) W):=fun W=>by
    have z5:s5.length<=s6.length:=by rw [hs6,List.length_append];omega
    have z4:s4.length<=s5.length:=by rw [hs5,List.length_append];omega
    have z3:s3.length<=s4.length:=by rw [hs4,List.length_append];omega
    exact ⟨strA W hs3 oM,strA W hs4 oM,strA W hs5 oM,strA W hs6 oM⟩
   clear e2 e3 hx hs3 hs4 hs5 hs6 hz c0 c1 c2 c3 c4 c5 HP1 lgb HS;obtain ⟨c2,lgb,r0,r1,lb⟩:=HC.o wr (Ok.refl wr)
   go_upto_region 12 with (fail)
   have S0:Ok wr wr.drew:=Below.drew (Ok.refl wr);clear c2 lgb r0 r1 lb;refine zd5 (fun Y=>Ok wr Y) 19 kR ?_;refine tL 0 (.string ⟨s.toArray⟩) S0 ?_ ?_
   ·intro w' s0;clear s0;go_simp;try with_reducible rfl
   simp only [pu];refine tL 1 (pA gp 2) S0 ?_ ?_
   ·intro w' s0;clear s0;go_simp;try with_reducible rfl
   simp only [pu];refine tL 2 (.slice (sA b o) n lc) S0 ?_ ?_
   ·intro w' s0;obtain ⟨z1,z2,z3,z4,z5⟩:=HC.o w' s0;clear s0;go_simp;try with_reducible rfl
   simp only [pu];refine tL 3 (nI (k:Nat)) S0 ?_ ?_
   ·intro w' s0;clear s0;go_simp;try with_reducible rfl
   simp only [pu];refine tL 4 (.pointer (some ⟨b,o+k*2,none⟩)) S0 ?_ ?_
   ·intro w' s0;have z7:(0:Int)<=(k:Int):=oM;have z8:¬((n:Int)<=(k:Int)):=oM;clear s0;go_simp;try with_reducible rfl
   simp only [pu];refine tL 5 (.pointer (some ⟨b,o+k*2,none⟩)) S0 ?_ ?_
   ·intro w' s0;clear s0;go_simp;try with_reducible rfl
   simp only [pu];refine tL 6 (nI x.1) S0 ?_ ?_
   ·intro w' s0;obtain ⟨z1,z2,z3,z4,z5⟩:=HC.o w' s0;clear s0;go_simp;try with_reducible rfl
   simp only [pu];refine tL 10 (pA gp 2) S0 ?_ ?_
   ·intro w' s0;clear s0;go_simp;try with_reducible rfl
   simp only [pu];refine tL 11 (.slice (sA b o) n lc) S0 ?_ ?_
   ·intro w' s0;obtain ⟨z1,z2,z3,z4,z5⟩:=HC.o w' s0;clear s0;go_simp;try with_reducible rfl
   simp only [pu];refine tL 12 (nI (k:Nat)) S0 ?_ ?_
   ·intro w' s0;clear s0;go_simp;try with_reducible rfl
   simp only [pu];refine tL 13 (.pointer (some ⟨b,o+k*2,none⟩)) S0 ?_ ?_
   ·intro w' s0;have z7:(0:Int)<=(k:Int):=oM;have z8:¬((n:Int)<=(k:Int)):=oM;clear s0;go_simp;try with_reducible rfl
   simp only [pu];refine tL 14 (.pointer (some ⟨b,o+k*2+1,none⟩)) S0 ?_ ?_
   ·intro w' s0;clear s0;go_simp;try with_reducible rfl
   simp only [pu];refine tL 15 (nI x.2) S0 ?_ ?_
   ·intro w' s0;obtain ⟨z1,z2,z3,z4,z5⟩:=HC.o w' s0;clear s0;go_simp;try with_reducible rfl
   simp only [pu];refine zb0 (i:=7) kR rfl (fun K hK=>?_);go_simp;refine (zB3 x.1 HX6.o.1 _ (HTB.o _ ((HK.o.step HR.o).step S0))).mono ?_;rintro e D1 ⟨rfl,hk1⟩;have S1:Ok wr D1:=S0.step hk1;refine hK.out _ _ (fun _=>S1) ?_;clear hK K S0 hk1;have S0:=S1;clear S1
   try simp only [pu]
   refine tL 8 (.string ⟨s3.toArray⟩) S0 ?_ ?_
   ·intro w' s0;obtain ⟨y1,y2,y3,y4⟩:=HA.o w';clear s0;go_simp;try with_reducible rfl
   simp only [pu];refine tL 9 (.string ⟨s4.toArray⟩) S0 ?_ ?_
   ·intro w' s0;obtain ⟨y1,y2,y3,y4⟩:=HA.o w';clear s0;go_simp;try with_reducible rfl
   simp only [pu];refine zb0 (i:=16) kR rfl (fun K hK=>?_);go_simp;refine (zB3 x.2 HX6.o.2 _ (HTB.o _ ((HK.o.step HR.o).step S0))).mono ?_;rintro e D2 ⟨rfl,hk1⟩;have S1:Ok wr D2:=S0.step hk1;refine hK.out _ _ (fun _=>S1) ?_;clear hK K S0 hk1;have S0:=S1;clear S1
   try simp only [pu]
   refine tL 17 (.string ⟨s5.toArray⟩) S0 ?_ ?_
   ·intro w' s0;obtain ⟨y1,y2,y3,y4⟩:=HA.o w';clear s0;go_simp;try with_reducible rfl
   simp only [pu];refine tL 18 (.string ⟨s6.toArray⟩) S0 ?_ ?_
   ·intro w' s0;obtain ⟨y1,y2,y3,y4⟩:=HA.o w';clear s0;go_simp;try with_reducible rfl
   simp only [pu];refine zb0 (i:=19) kR rfl (fun K hK=>?_);go_simp;refine hK.out _ _ (fun h=>absurd rfl h) ?_;clear hK K;refine zd4 kR ?_ _;have HR2:Hi (Ok W D2):=HR.o.step S0;clear S0 HR HA HC;go_wp2_with fail;refine ⟨⟨k+1,s6,rfl,hkl,rfl,HS6,HR2⟩,?_⟩;simp only [intOf];omega
  have hlt:¬(k:Int)<(n:Int):=zb2 hkl;go_wp2_with fail;go_ret;refine ⟨?_,HK.o.step HR.o⟩;rw [HS.o,HS1.o,HE.o,List.take_of_length_le (by have:=HN.o.2;omega)];simp
end
section
open Go.RowKit Go.Maps
theorem gzero4 (w:World):(zeroValue 4).run Tryz.prog w=.ok (.bool false) w:=by kernel_rfl
structure MB (k:TypeId) (D:DataW Unit) (f:Value->Bool):Prop where
 mp:IsMap D
 val:∀ key kl,keyOf Tryz.prog k key=some kl->D.atKey kl (.lit (.bool false))=.lit (.bool (f key))
def MapB (w:World) (k:TypeId) (b N:Nat) (f:Value->Bool):Prop:=∃ n D,n<=N/\w.ownsMap Tryz.prog k (plainElem Tryz.prog 4) b n D/\MB k D f
theorem MapB.made (w:World) (k:TypeId):MapB (w.alloc (.map #[] 0)) k w.heap.size 0 (fun _=>false):=⟨0,_,nR_ _,World.ownsMap_made w Tryz.prog k _,⟨[],rfl⟩,fun _ _ _=>rfl⟩
theorem MapB.lt (h:MapB w k b N f):b<w.heap.size:=by obtain ⟨n,D,_,h1,_⟩:=h;exact h1.lt
theorem MapB.kept (h:MapB w k b N f) (hg:w.grownBy w' r) (hne:some b≠r):MapB w' k b N f:=by obtain ⟨n,D,h0,h1,h2⟩:=h;exact ⟨n,D,h0,h1.kept hg hne,h2⟩
theorem MapB.ok (h:MapB w k b N f) (hb:Ok w w'):MapB w' k b N f:=h.kept (zu1 hb) sI
theorem MapB.look (h:MapB w k b N f) (K:Keyed Tryz.prog k) (ht:Tryz.prog.underlying t=some (.map k 4)) {key:Value} {kl:Lit} (hk:keyOf Tryz.prog k key=some kl) :
  (Instr.lookup t (.map (some b)) key false).run Tryz.prog w=.ok (.bool (f key)) w:=by
 obtain ⟨n,D,_,hD,hS⟩:=h;obtain ⟨u,ps,hrun,hu⟩:=hD.lookup K ht (gzero4 w) (plainElem_bool Tryz.underlying4 false) hk;rw [hS.val key kl hk] at hu;rw [hrun]
 cases u with
 | bool x =>
  rw [plainElem_bool Tryz.underlying4 x] at hu;simp only [Option.some.injEq,Prod.mk.injEq,DataW.lit.injEq,Lit.bool.injEq] at hu;rw [hu.1]
 | _=>simp [plainElem,Tryz.underlying4] at hu
theorem MapB.put {f':Value->Bool} (h:MapB w k b N f) (K:Keyed Tryz.prog k) (ht:Tryz.prog.underlying t=some (.map k 4)) {key:Value} {kl:Lit} (hk:keyOf Tryz.prog k key=some kl) (hN:N<maxLen) (e1:f' key=true) (e2:∀ u,u≠key->f' u=f u) :
  ∃ w',(Instr.mapUpdate t (.map (some b)) key (.bool true)).run Tryz.prog w=.ok () w'/\MapB w' k b (N+1) f'/\w.grownBy w' (some b):=by
 obtain ⟨n,D,hn,hD,hS⟩:=h;obtain ⟨w',hrun,hD',hg⟩:=hD.update K ht oM hk (plainElem_bool Tryz.underlying4 true);refine ⟨w',hrun,⟨n+1,_,by omega,hD',?_,fun u ul hu=>?_⟩,hg⟩
 ·obtain ⟨es,rfl⟩:=hS.mp
  exact ⟨_,DataW.put_eq _ _ _⟩
 by_cases e:u=key
 ·subst e
  obtain rfl:kl=ul:=Option.some.inj (hk.symm.trans hu);rw [e1];exact atKey_put_same hS.mp (K.key hk) _ _
 have hne:ul≠kl:=fun e1=>by subst e1;exact e (K.inj hu hk)
 rw [atKey_put_other hne,e2 u e];exact hS.val u ul hu
def SetN (w:World) (b N:Nat) (p:Int->Bool):Prop:=∃ f,MapB w 3 b N f/\∀ x:Int,f (nI x)=p x
theorem keyI (h0 : -9223372036854775808<=x) (h1:x<=9223372036854775807):keyOf Tryz.prog 3 (.int .i64 x)=some (.int .i64 x):=keyOf_int_mk Tryz.underlying3 (gwf h0 h1)
theorem law3g:Keyed Tryz.prog 3:=int_keyed Tryz.underlying3
theorem SetN.made (w:World):SetN (w.alloc (.map #[] 0)) w.heap.size 0 (fun _=>false):=⟨_,MapB.made w 3,fun _=>rfl⟩
theorem SetN.kept {p:Int->Bool} (h:SetN w b N p) (hg:w.grownBy w' r) (hne:some b≠r):SetN w' b N p:=by obtain ⟨f,h1,h2⟩:=h;exact ⟨f,h1.kept hg hne,h2⟩
theorem SetN.ok {p:Int->Bool} (h:SetN w b N p) (hb:Ok w w'):SetN w' b N p:=by obtain ⟨f,h1,h2⟩:=h;exact ⟨f,h1.ok hb,h2⟩
theorem SetN.lt {p:Int->Bool} (h:SetN w b N p):b<w.heap.size:=by obtain ⟨f,h1,_⟩:=h;exact h1.lt
theorem SetN.look {p:Int->Bool} (h:SetN w b N p) (ht:Tryz.prog.underlying t=some (.map 3 4)) (h0 : -9223372036854775808<=x) (h1:x<=9223372036854775807) :
  (Instr.lookup t (.map (some b)) (nI x) false).run Tryz.prog w=.ok (.bool (p x)) w:=by
 obtain ⟨f,h2,h3⟩:=h;rw [<-h3 x];exact h2.look law3g ht (keyI h0 h1)
theorem SetN.put {p:Int->Bool} (h:SetN w b N p) (ht:Tryz.prog.underlying t=some (.map 3 4)) (h0 : -9223372036854775808<=x) (h1:x<=9223372036854775807) (hN:N<maxLen) :
  ∃ w',(Instr.mapUpdate t (.map (some b)) (nI x) (.bool true)).run Tryz.prog w=.ok () w'/\SetN w' b (N+1) (fun y=>y==x||p y)/\w.grownBy w' (some b):=by
 obtain ⟨f,h2,h3⟩:=h
 classical
 obtain ⟨w',r1,r2,r3⟩:=h2.put (f':=fun u=>if u=nI x then true else f u) law3g ht (keyI h0 h1) hN (by simp) (fun u hu=>by simp [hu]);refine ⟨w',r1,⟨_,r2,fun y=>?_⟩,r3⟩;by_cases c:y=x
 ·subst c;simp
 have:¬(nI y=nI x):=fun e=>c (by injection e);simp only [this,if_false,h3 y];simp [c]
def NumN (w:World) (b N:Nat) (p:Int->Int):Prop:=∃ f,MapF w 3 b N f/\∀ x:Int,(f (nI x)).getD 0=p x
theorem NumN.made (w:World):NumN (w.alloc (.map #[] 0)) w.heap.size 0 (fun _=>0):=⟨_,MapF.made w 3,fun _=>rfl⟩
theorem NumN.kept (h:NumN w b N p) (hg:w.grownBy w' r) (hne:some b≠r):NumN w' b N p:=by obtain ⟨f,h1,h2⟩:=h;exact ⟨f,h1.kept hg hne,h2⟩
theorem NumN.ok (h:NumN w b N p) (hb:Ok w w'):NumN w' b N p:=by obtain ⟨f,h1,h2⟩:=h;exact ⟨f,h1.ok hb,h2⟩
theorem NumN.lt (h:NumN w b N p):b<w.heap.size:=by obtain ⟨f,h1,_⟩:=h;exact h1.lt
theorem NumN.look (h:NumN w b N p) (ht:Tryz.prog.underlying t=some (.map 3 3)) (h0 : -9223372036854775808<=x) (h1:x<=9223372036854775807) :
  (Instr.lookup t (.map (some b)) (nI x) false).run Tryz.prog w=.ok (nI (p x)) w:=by
 obtain ⟨f,h2,h3⟩:=h;rw [<-h3 x];exact h2.look law3g ht (keyI h0 h1)
theorem NumN.put (h:NumN w b N p) (ht:Tryz.prog.underlying t=some (.map 3 3)) (h0 : -9223372036854775808<=x) (h1:x<=9223372036854775807) {z:Int} (z0 : -9223372036854775808<=z) (z1:z<=9223372036854775807) (hN:N<maxLen) :
  ∃ w',(Instr.mapUpdate t (.map (some b)) (nI x) (nI z)).run Tryz.prog w=.ok () w'/\NumN w' b (N+1) (fun y=>if y=x then z else p y)/\w.grownBy w' (some b):=by
 obtain ⟨f,h2,h3⟩:=h
 classical
 obtain ⟨w',r1,r2,r3⟩:=h2.put (f':=fun u=>if u=nI x then some z else f u) law3g ht (keyI h0 h1) z0 z1 hN (by simp) (fun u hu=>by simp [hu]);refine ⟨w',r1,⟨_,r2,fun y=>?_⟩,r3⟩;by_cases c:y=x
 ·subst c;simp
 have:¬(nI y=nI x):=fun e=>c (by injection e);simp only [this,if_false,c,h3 y]
def SetS (w:World) (b N:Nat) (l:List (List UInt8)):Prop:=∃ f,MapB w 9 b N f/\∀ s:ByteArray,f (.string s)=decide (s.data.toList∈l)
theorem SetS.made (w:World):SetS (w.alloc (.map #[] 0)) w.heap.size 0 []:=⟨_,MapB.made w 9,fun _=>by simp⟩
theorem SetS.kept (h:SetS w b N l) (hg:w.grownBy w' r) (hne:some b≠r):SetS w' b N l:=by obtain ⟨f,h1,h2⟩:=h;exact ⟨f,h1.kept hg hne,h2⟩
theorem SetS.ok (h:SetS w b N l) (hb:Ok w w'):SetS w' b N l:=by obtain ⟨f,h1,h2⟩:=h;exact ⟨f,h1.ok hb,h2⟩
theorem SetS.lt (h:SetS w b N l):b<w.heap.size:=by obtain ⟨f,h1,_⟩:=h;exact h1.lt
theorem SetS.look (h:SetS w b N l) (ht:Tryz.prog.underlying t=some (.map 9 4)) {s:ByteArray} (hs:s.size<=maxLen) :
  (Instr.lookup t (.map (some b)) (.string s) false).run Tryz.prog w=.ok (.bool (decide (s.data.toList∈l))) w:=by
 obtain ⟨f,h2,h3⟩:=h;rw [<-h3 s];exact h2.look (string_keyed Tryz.underlying9) ht (WideMaps.keyOf_string_mk Tryz.underlying9 hs)
theorem SetS.put (h:SetS w b N l) (ht:Tryz.prog.underlying t=some (.map 9 4)) {s:ByteArray} (hs:s.size<=maxLen) (hN:N<maxLen) :
  ∃ w',(Instr.mapUpdate t (.map (some b)) (.string s) (.bool true)).run Tryz.prog w=.ok () w'/\SetS w' b (N+1) (s.data.toList::l)/\w.grownBy w' (some b):=by
 obtain ⟨f,h2,h3⟩:=h
 classical
 obtain ⟨w',r1,r2,r3⟩:=h2.put (f':=fun u=>if u=.string s then true else f u) (string_keyed Tryz.underlying9) ht (WideMaps.keyOf_string_mk Tryz.underlying9 hs) hN (by simp) (fun u hu=>by simp [hu]);refine ⟨w',r1,⟨_,r2,fun y=>?_⟩,r3⟩;by_cases c:y=s
 ·subst c;simp
 have h4:¬(Value.string y=.string s):=fun e=>c (by injection e);have h5:¬y.data.toList=s.data.toList:=fun e=>c (by cases y;cases s;simpa using e);simp only [h4,if_false,h3 y,List.mem_cons,h5,false_or]
end
section
open Go.RowKit Go.Maps
def kyF (vs:List Vx):Value->Option Int
 | .string s=>(vs.findIdx? fun v=>decide (keyV Lib.itoa v=s.data.toList)).map fun k=>(k:Int)
 | _=>Option.none
def keyK (v:Vx):Value:=.string ⟨(keyV Lib.itoa v).toArray⟩
theorem yG8 (hv:∀ v∈vs,TokOk v.2) (h:TokOk v.2):kyF vs (keyK v)=(look vs v).map fun k=>(k:Int):=by show ((vs.findIdx? fun x=>decide (keyV Lib.itoa x=(keyV Lib.itoa v))).map fun k=>(k:Int))=_;unfold look;rw [zo7 (q:=fun x=>decide (x=v)) fun x hx=>?_];exact decide_eq_decide.2 ⟨fun e=>yH3 zz7 (hv x hx) h e,fun e=>by rw [e]⟩
theorem yI0 (hv:∀ v∈vs,TokOk v.2) (h:TokOk v.2) (hn:look vs v=Option.none):kyF (vs++[v]) (keyK v)=some ((vs.length:Nat):Int):=by
 have hv':∀ x∈vs++[v],TokOk x.2:=fun x hx=>by
  rcases List.mem_append.1 hx with h1 | h1
  ·exact hv x h1
  rw [List.mem_singleton.1 h1];exact h
 rw [yG8 hv' h];unfold look at hn ⊢;rw [List.findIdx?_append,hn];simp [List.findIdx?_cons]
theorem yI1 {u:Value} (hu:u≠keyK v):kyF (vs++[v]) u=kyF vs u:=by
 unfold kyF
 split
 ·rename_i s
  rw [List.findIdx?_append]
  have:¬keyV Lib.itoa v=s.data.toList:=fun e=>hu (by
   unfold keyK
   rw [e])
  cases vs.findIdx? fun v=>decide (keyV Lib.itoa v=s.data.toList) with
  | some k=>rfl
  | none=>simp [List.findIdx?_cons,this]
 rfl
theorem yG9 {t:Tok} (h:TkB 100000 t):(keyT Lib.itoa t).length<=6700000:=by
 unfold keyT
 split
 ·have:wMerged.length=6:=rfl
  omega
 have h1:=zr2 t.2.1 h.hi;have h2:=zB4 t.2.2 h.li;have h3:=h.hl;have h4:=h.ll;rw [List.length_append,List.length_cons];omega
theorem yG1 {n:Int} {t:Tok} (hn:I64 n) (h:TkB 100000 t):(keyV Lib.itoa (n,t)).length<=6700100:=by unfold keyV;have h1:=yG9 h;have h2:=Lib.itoa_length_le n hn.1 hn.2;rw [List.length_append,List.length_cons];show (Lib.itoa n).length+((keyT Lib.itoa t).length+1)<=6700100;omega
theorem yI2 (h:(keyV Lib.itoa v).length<=100000000):keyOf Tryz.prog 9 (keyK v)=some (.string (keyV Lib.itoa v)):=by
 have e:(⟨(keyV Lib.itoa v).toArray⟩:ByteArray).size=(keyV Lib.itoa v).length:=by simp [ByteArray.size]
 have:=WideMaps.keyOf_string_mk (P:=Tryz.prog) Tryz.underlying9 (s:=⟨(keyV Lib.itoa v).toArray⟩) (by rw [e];unfold maxLen;omega);simpa [keyK] using this
structure QPar where
 gf:Nat
 ga:Nat
 gn:Nat
 gm:Nat
 km:Nat
 B:Nat
 a:Nat->Value
def QPar.row (F:QPar) (vv lv:Value):Array Value:=#[F.a 0,F.a 1,F.a 2,F.a 3,F.a 4,F.a 5,F.a 6,F.a 7,F.a 8,F.a 9,F.a 10,F.a 11,F.a 12,F.a 13,F.a 14,F.a 15,F.a 16,F.a 17,.map (some F.gm),vv,lv,.map (some F.ga),.map (some F.gn)]
def QPar.F (F:QPar):FPar:=⟨F.gf,F.ga,F.gn,F.B,0,0,F.a⟩
structure QOk (w0:World) (F:QPar) (p:Pl):Prop where
 f0:w0.heap.size<=F.gf
 a0:w0.heap.size<=F.ga
 n0:w0.heap.size<=F.gn
 fB:F.gf<F.B
 aB:F.ga<F.B
 nB:F.gn<F.B
 fa:F.gf≠F.ga
 fn:F.gf≠F.gn
 an:F.ga≠F.gn
 cap:F.a 11=nI (p.cap:Nat)
 mrg:SetN w0 F.gm F.km p.mgd
 tab:Lib.TabBelow Tryz.prog w0.heap.size w0 "internal/strconv.uint64pow10" .u64 Lib.pow10Tab
 small:p.cap<=10
structure QS (w0:World) (F:QPar) (w:World) (vv lv:Value) (vs vm vc:List Vx) (ls:List Lk):Prop where
 ok:Ok w0 w
 le:F.B<=w.heap.size
 row:w.heap[F.gf]?=some (.cells (F.row vv lv) 70 (0,0))
 vo:VsOwn w F.B vv vs
 lo:w.ownsRow F.B 73 3 lv ls.length (lkL ls)
 mp:MapF w 9 F.ga vm.length (kyF vm)
 nm:NumN w F.gn vc.length (fun n=>(many vc n:Int))
theorem QS.step {F:QPar} (h:QS w0 F w vv lv vs vm vc ls) (hk:Ok w w'):QS w0 F w' vv lv vs vm vc ls :=
 ⟨h.ok.step hk,Nat.le_trans h.le hk.le,Ok.row' hk h.row,h.vo.ok hk,za1 h.lo hk,h.mp.ok hk,h.nm.ok hk⟩
theorem QS.near {F:QPar} {p:Pl} (h:QS w0 F w vv lv vs vm vc ls) (hF:QOk w0 F p) {g:Nat} (h0:w0.heap.size<=g) (hB:g<F.B) (hf:F.gf≠g) (hg:w.grownBy w' (some g)) :
  Ok w0 w'/\F.B<=w'.heap.size/\w'.heap[F.gf]?=some (.cells (F.row vv lv) 70 (0,0))/\VsOwn w' F.B vv vs/\w'.ownsRow F.B 73 3 lv ls.length (lkL ls):=by
 have hne:∀ b,b<w.heap.size->b≠g->w'.heap[b]?=w.heap[b]?:=fun b hl hb=>hg.block b hl fun e=>hb (Option.some.inj e);exact ⟨h.ok.grown hg (fun b e=>by rw [<-Option.some.inj e];exact h0),Nat.le_trans h.le hg.size,(hne _ (za2 h.row) hf).trans h.row,h.vo.far fun b hb hl=>hne b hl (by omega),zb4 h.lo fun b hb=>hne b (h.lo.lt b hb).2 (by have h1:=(h.lo.lt b hb).1;omega)⟩
theorem QS.count {F:QPar} {p:Pl} (h:QS w0 F w vv lv vs vm vc ls) (hF:QOk w0 F p) (hm:NumN w' F.gn (vc.length+1) (fun n=>(many (vc++[v]) n:Int))) (hg:w.grownBy w' (some F.gn)) :
  QS w0 F w' vv lv vs vm (vc++[v]) ls:=by
 obtain ⟨a1,a2,a3,a4,a5⟩:=h.near hF hF.n0 hF.nB hF.fn hg;exact ⟨a1,a2,a3,a4,a5,h.mp.kept hg (fun e=>hF.an (Option.some.inj e)),by rw [List.length_append];exact hm⟩
theorem QS.put {F:QPar} {p:Pl} (h:QS w0 F w vv lv vs vm vc ls) (hF:QOk w0 F p) (hm:MapF w' 9 F.ga (vm.length+1) (kyF (vm++[v]))) (hg:w.grownBy w' (some F.ga)) :
  QS w0 F w' vv lv vs (vm++[v]) vc ls:=by
 obtain ⟨a1,a2,a3,a4,a5⟩:=h.near hF hF.a0 hF.aB hF.fa hg;exact ⟨a1,a2,a3,a4,a5,by rw [List.length_append];exact hm,h.nm.kept hg (fun e=>hF.an (Option.some.inj e).symm)⟩
theorem yH6 (F:QPar) (vv lv v':Value):(F.row vv lv).setIfInBounds 19 v'=F.row v' lv:=rfl
theorem yH0 (F:QPar) (vv lv v':Value):(F.row vv lv).setIfInBounds 20 v'=F.row vv v':=rfl
theorem NumN.set (h:NumN w b N p) {q:Addr} (hp:b≠q.block) (v:Value):NumN (w.setCell q v) b N p:=by obtain ⟨f,h1,h2⟩:=h;exact ⟨f,h1.set hp v,h2⟩
theorem QS.push {F:QPar} {p:Pl} {vv':Value} (h:QS w0 F w vv lv vs vm vc ls) (hF:QOk w0 F p) {v:Vx} {x:Value×Value} {tl:List (Value×Value)} (htl:tl.length=vs.length) (hvo:w.ownsRow F.B 105 4 vv vs.length (vxL vs tl)) (hold:∀ (i:Nat) (v:Vx) (x:Value×Value),vs[i]?=some v->tl[i]?=some x->TokOwn w F.B x.1 x.2 v.2) (hx:TokOwn w F.B x.1 x.2 v.2)
  (hv:w'.ownsRow F.B 105 4 vv' (vs.length+1) (vxL vs tl++[nI v.1,.bool v.2.1,x.1,x.2])) (hg:w.grownBy w' vv.ownBlock):QS w0 F (w'.setCell (aD F.gf 19) vv') vv' lv (vs++[v]) vm vc ls:=by
 have hb:∀ b,b<F.B->w'.heap[b]?=w.heap[b]?:=fun b hl=>hg.block b (lL_ hl h.le) fun e=>zf4 hvo hl e.symm;have hc:∀ (y:Value×Value) (u:Tok),TokOwn w F.B y.1 y.2 u->TokOwn (w'.setCell (aD F.gf 19) vv') F.B y.1 y.2 u:=fun y u hy=>⟨zc7 (zd6 hy.hist hvo dC hg) (zf4 hy.hist hF.fB) _,zc7 (zd6 hy.loops hvo dC hg) (zf4 hy.loops hF.fB) _⟩;refine ⟨(h.ok.grown hg (fun b e=>by have h1:=(hvo.lt b e).1;have h2:=hF.f0;have h3:=hF.fB;omega)).set hF.f0 _,by have h1:=h.le;have h2:=hg.size;simp;omega,?_,?_,zc7 (zd6 h.lo hvo (by decide) hg) (zf4 h.lo hF.fB) _,(h.mp.kept hg (fun e=>zf4 hvo hF.aB e.symm)).set (fun e=>hF.fa e.symm) _,(h.nm.kept hg (fun e=>zf4 hvo hF.nB e.symm)).set (fun e=>hF.fn e.symm) _⟩
 ·rw [<-yH6 F vv lv vv']
  exact heap_setCell_same _ _ _ _ _ _ ((hb _ hF.fB).trans h.row)
 refine ⟨tl++[x],by rw [List.length_append,List.length_append,htl];rfl,?_,?_⟩
 ·rw [yy4 htl,List.length_append,List.length_singleton]
  exact zc7 hv (zf4 hv hF.fB) _
 intro i u y hu hy;by_cases c:i<vs.length
 ·rw [List.getElem?_append_left c] at hu
  rw [List.getElem?_append_left (by omega)] at hy;exact hc y _ (hold i u y hu hy)
 rw [List.getElem?_append_right (by omega)] at hu;rw [List.getElem?_append_right (by omega),htl] at hy;by_cases d:i=vs.length
 ·subst d
  simp only [Nat.sub_self,List.getElem?_cons_zero,Option.some.injEq] at hu hy;subst hu hy;exact hc x _ hx
 rw [List.getElem?_eq_none (by simp;omega)] at hu;cases hu
theorem QS.link {F:QPar} {p:Pl} {lv':Value} (h:QS w0 F w vv lv vs vm vc ls) (hF:QOk w0 F p) {l:Lk} (hl:w'.ownsRow F.B 73 3 lv' (ls.length+1) (lkL ls++[nI (l.1:Nat),nI (l.2.1:Nat),nI (l.2.2:Nat)])) (hg:w.grownBy w' lv.ownBlock) :
  QS w0 F (w'.setCell (aD F.gf 20) lv') vv lv' vs vm vc (ls++[l]):=by
 have hb:∀ b,b<F.B->w'.heap[b]?=w.heap[b]?:=fun b hl=>hg.block b (lL_ hl h.le) fun e=>zf4 h.lo hl e.symm;obtain ⟨tl,h1,h2,h3⟩:=h.vo;have hc:∀ (y:Value×Value) (u:Tok),TokOwn w F.B y.1 y.2 u->TokOwn (w'.setCell (aD F.gf 20) lv') F.B y.1 y.2 u:=fun y u hy=>⟨zc7 (zd6 hy.hist h.lo dC hg) (zf4 hy.hist hF.fB) _,zc7 (zd6 hy.loops h.lo dC hg) (zf4 hy.loops hF.fB) _⟩;refine ⟨(h.ok.grown hg (fun b e=>by have h1:=(h.lo.lt b e).1;have h2:=hF.f0;have h3:=hF.fB;omega)).set hF.f0 _,by have h1:=h.le;have h2:=hg.size;simp;omega,?_,⟨tl,h1,zc7 (zd6 h2 h.lo (by decide) hg) (zf4 h2 hF.fB) _,fun i v x hv hx=>hc x _ (h3 i v x hv hx)⟩,?_,(h.mp.kept hg (fun e=>zf4 h.lo hF.aB e.symm)).set (fun e=>hF.fa e.symm) _,(h.nm.kept hg (fun e=>zf4 h.lo hF.nB e.symm)).set (fun e=>hF.fn e.symm) _⟩
 ·rw [<-yH0 F vv lv lv']
  exact heap_setCell_same _ _ _ _ _ _ ((hb _ hF.fB).trans h.row)
 rw [yy5,List.length_append,List.length_singleton];exact zc7 hl (zf4 hl hF.fB) _
theorem QS.cells {F:QPar} {p:Pl} (h:QS w0 F w vv lv vs vm vc ls) (hF:QOk w0 F p) :
  w.cell? (aD F.gf 11)=some (nI (p.cap:Nat))/\w.cell? (aD F.gf 18)=some (.map (some F.gm))/\w.cell? (aD F.gf 19)=some vv/\w.cell? (aD F.gf 20)=some lv/\w.cell? (aD F.gf 21)=some (.map (some F.ga))/\w.cell? (aD F.gf 22)=some (.map (some F.gn))/\(∀ o,w.frozen? (aD F.gf o)=false)/\F.gf<w.heap.size :=
 ⟨(cell_of_row _ _ 11 _ _ _ h.row).trans (by rw [<-hF.cap];rfl),(cell_of_row _ _ 18 _ _ _ h.row).trans rfl,(cell_of_row _ _ 19 _ _ _ h.row).trans rfl,(cell_of_row _ _ 20 _ _ _ h.row).trans rfl,(cell_of_row _ _ 21 _ _ _ h.row).trans rfl,(cell_of_row _ _ 22 _ _ _ h.row).trans rfl,fun o=>frozen_of_row _ _ _ _ _ h.row,za2 h.row⟩
def QtIs (w0:World) (F:QPar) (p:Pl) (lv:Value) (vs:List Vx) (ls:List Lk) (k:Nat) (t:Tok) (w:World) (vv:Value) (e:Ending) (w':World):Prop :=
 match p.vert vs (k:Int) t with
 | none=>e=.returned (.tuple #[nI 0,.bool false])/\QS w0 F w' vv lv vs vs vs ls/\VK F.F w vv w' vv
 | some r=>e=.returned (.tuple #[nI (r.2:Nat),.bool true])/\∃ vv',QS w0 F w' vv' lv r.1 r.1 r.1 ls/\VJ p r.1/\VK F.F w vv w' vv'
end
end Go.Proofs.YtihdgmiicfbbkaaGreatDoor
