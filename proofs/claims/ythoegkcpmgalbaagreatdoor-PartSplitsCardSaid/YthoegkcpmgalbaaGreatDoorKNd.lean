import Derived.Shelf.Strconv.Itoa3
import Derived.Test.YthoegkcpmgalbaaGreatDoorKNc
set_option maxHeartbeats 8000000
set_option linter.all false
set_option maxRecDepth 100000
namespace Go.Proofs.YthoegkcpmgalbaaGreatDoor
open Go.Shelf Go.RowKit Go.Maps
variable{N b:Nat}{f:Value->Bool}{k t:TypeId}{ls:List Lk}{lv vv:Value}{p:Pl}{v:Vx}{vc vm vs:List Vx}{w w' w0:World}{x:Int}
def Tryz.laysM171_ren:Go.Shelf.Ren:={ Tryz.laysM176_ren with f:=fun | 171=>55 | 243=>89 | 246=>120 | n=>Tryz.laysM176_ren.f n }
def Tryz.laysM171:Go.Proofs.LaysM.n171 Tryz.prog Tryz.laysM171_ren:={ Tryz.laysM176 with
 f171:=Tryz.func55.trans (cA some kR)
 f243:=Tryz.func89.trans (cA some kR)
 f246:=Tryz.func120.trans (cA some kR)
 f129:=Tryz.func166.trans (cA some kR)
 f283:=Tryz.func151.trans (cA some kR)
 f284:=Tryz.func152.trans (cA some kR)
 f285:=Tryz.func153.trans (cA some kR)
 f286:=Tryz.func154.trans (cA some kR)
 f317:=Tryz.func165.trans (cA some kR)
 f318:=Tryz.func167.trans (cA some kR)
 f319:=Tryz.func168.trans (cA some kR)
 f320:=Tryz.func169.trans (cA some kR)
 f337:=Tryz.func177.trans (cA some kR)
 f338:=Tryz.func178.trans (cA some kR)
}
def zB3(n:Int)(h:I64 n)(w:World)(d:Lib.TabIs Tryz.prog w "internal/strconv.uint64pow10" .u64 Lib.pow10Tab) :
  Calls Tryz.prog 55 #[nI n] w λe w'=>e=.returned (.string ⟨(Lib.itoa n).toArray⟩)/\Ok w w':=by
 refine(Any.strconv_Itoa Tryz.laysM171 n h.1 h.2 w d).mono ?_;rintro e w' ⟨rfl,k,o,rfl⟩;exact⟨rfl,Lib.below_grow _ w (nR_ _) k o⟩
def wi9(w:World){a b c:List UInt8}(e:c=a++b)(h:c.length<=9223372036854775807):(Op.stringOp .add ⟨a.toArray⟩ ⟨b.toArray⟩).run Tryz.prog w=.ok (.string ⟨c.toArray⟩) w:=by rw[run_string_add_sum w _ _ (by rw[e,aA]at h;simpa[ByteArray.size] using h),ByteArray.mk_append_mk,e]
def zr2:∀(h:List Int),(∀x∈h,I64 x)->(EC Lib.itoa h).length<=22*h.length
 | [],_=>by simp[EC]
 | x::xs,hx=>by have o:=Lib.itoa_length_le x (hx x sI).1 (hx x sI).2;have D:=zr2 xs λy d=>hx y (by simp[d]);have e:EC Lib.itoa (x::xs)=(Lib.itoa x++[32])++EC Lib.itoa xs:=rfl;rw[e];simp only[aA,aR,cM];omega
def zB4:∀(h:List (Int×Int)),(∀x∈h,I64 x.1/\I64 x.2)->(wa2 Lib.itoa h).length<=44*h.length
 | [],_=>by simp[wa2]
 | x::xs,hx=>by have d:=hx x sI;have G:=Lib.itoa_length_le x.1 d.1.1 d.1.2;have I:=Lib.itoa_length_le x.2 d.2.1 d.2.2;have D:=zB4 xs λy o=>hx y (by simp[o]);have e:wa2 Lib.itoa (x::xs)=(Lib.itoa x.1++120::(Lib.itoa x.2++[32]))++wa2 Lib.itoa xs:=rfl;rw[e];simp only[aA,aR,cM];omega
def yh0(D:Int->List UInt8){h:List Int}{k:Nat}(d:h[k]?=some x):EC D (h.take (k+1))=EC D (h.take k)++D x++[32]:=by unfold EC;rw[dH,d];simp
def yh1(D:Int->List UInt8){l:List (Int×Int)}{k:Nat}{x:Int×Int}(d:l[k]?=some x):wa2 D (l.take (k+1))=wa2 D (l.take k)++D x.1++[120]++D x.2++[32]:=by unfold wa2;rw[dH,d];simp
def yA9(hv lv:Value)(t:Tok)(w:World)(o:EA w hv lv t)(I:TkB 100000 t)(d:Lib.TabBelow Tryz.prog w.heap.size w "internal/strconv.uint64pow10" .u64 Lib.pow10Tab) :
  Calls Tryz.prog 56 #[.agg #[.bool t.1,hv,lv]] w λe w'=>e=.returned (.string ⟨(wc9 Lib.itoa t).toArray⟩)/\Ok w w':=by
 have HT:=hid o;have Z:=hid I;have a3:Hi (∀ Y,Ok w Y->Lib.TabIs Tryz.prog Y "internal/strconv.uint64pow10" .u64 Lib.pow10Tab):=fun Y hY=>d Y hY;obtain ⟨_,_,ho,hc,e1,_⟩:=o.hist;obtain ⟨_,_,lo,lc,e2,_⟩:=o.loops;obtain ⟨q,G⟩:=qq (t.2.1.length);obtain ⟨n,D⟩:=qq (t.2.2.length);have HN:Hi (q=t.2.1.length/\n=t.2.2.length):=⟨G,D⟩;rw [<-G] at e1;rw [<-D] at e2;subst e1 e2;clear o I d G D
 cases hm:t.1 with
 | true =>
  have HE:Hi (wc9 Lib.itoa t=wa1):=by unfold Hi wc9;rw[aG hm]
  clear hm;go_enter Tryz.func56,Tryz.ntmps56;go_wp2_with fail;go_ret;exact⟨by rw[HE.o];rfl,(Ok.refl w).alloc _⟩
 | false =>
  have HE:Hi (wc9 Lib.itoa t=EC Lib.itoa t.2.1++47::wa2 Lib.itoa t.2.2):=by unfold Hi wc9;rw[aC (by rw[hm];decide)]
  clear hm;go_enter Tryz.func56,Tryz.ntmps56;go_wp2_with fail;obtain⟨W,o⟩:=qq (w.alloc (Obj.cells #[.bool false,.slice ho q hc,.slice lo n lc] 74));obtain⟨gp,d⟩:=qq (w.heap.size);rw[<-o,<-d];have HK:Hi (Ok w W):=by rw[o];exact(Ok.refl w).alloc _
  have HP:Hi (W.heap[gp]?=some (.cells #[.bool false,.slice ho q hc,.slice lo n lc] 74 (0,0))):=by rw[o,d];exact jj
  clear o d;go_loopw [3,4] (λt3 t4 wr=>∃(k:Nat),t4=nI (k:Nat)/\k<=q/\t3=.string ⟨(EC Lib.itoa (t.2.1.take k)).toArray⟩/\Hi (Ok W wr)) (λ_ t4 _=>((q:Int)-intOf t4).toNat)
  case atStart=>exact⟨0,rfl,zL_ _,rfl,Ok.refl _⟩
  obtain⟨k,rfl,hk,rfl,O⟩:=hrel;have J:Hi _:=Ok.row' O.o HP.o;obtain⟨c0,c1,c2,c3,c4,c5⟩:=za9 J.o;have I:=za2 J.o;by_cases D:k<q
  ·obtain⟨x,X⟩:∃x,t.2.1[k]?=some x:=⟨_,aJ (by rw[<-HN.o.1];exact D)⟩
   obtain⟨b,o,cp,e1,e2,e3⟩:=HT.o.hist.at (by decide) (k:=k) (by rw[<-HN.o.1];exact D)
   injection e1 with e4 e6 e5
   clear e6;subst e4 e5;have r0:wr.cell? ⟨b,o+k,none⟩=some (nI x):=(HK.o.step O.o).cell (p:=⟨b,o+k,none⟩) e2 (e3 _ _ (zk6 X));have HX:=hid X;have a2:Hi (I64 x):=Z.o.hi _ (mG_ X);have a1:(k:Int)<(q:Int):=za5 D;have kw:IntKind.i64.wrap ((k:Int)+1)=((k+1:Nat):Int):=zb3 (by have h1:=Z.o.hl;have h2:=HN.o.1;omega);obtain⟨s,K⟩:=qq (EC Lib.itoa (t.2.1.take k));obtain⟨s1,d⟩:=qq (s++Lib.itoa x);obtain⟨R,G⟩:=qq (s1++[32]);have HS:Hi (R=EC Lib.itoa (t.2.1.take (k+1))):=by unfold Hi;rw[yh0 _ X,<-K,G,d]
   have hz:R.length<=22*100000:=by rw[HS.o];have h1:=zr2 (t.2.1.take (k+1)) λy hy=>Z.o.hi y (dR hy);have h2:=Z.o.hl;rw[bH]at h1;omega
   have HA:Hi (∀W,(Op.stringOp .add ⟨s.toArray⟩ ⟨(Lib.itoa x).toArray⟩).run Tryz.prog W=.ok (.string ⟨s1.toArray⟩) W/\(Op.stringOp .add ⟨s1.toArray⟩ ⟨#[32]⟩).run Tryz.prog W=.ok (.string ⟨R.toArray⟩) W):=λW=>⟨wi9 W d (by rw[G,aA]at hz;omega),wi9 W G oM⟩;rw[<-K];clear e2 e3 X K d G hz;go_wp2_with fail;refine mq (zB3 x a2.o wr (a3.o wr (HK.o.step O.o))) λw1 L=>?_;have G:=hid (O.o.step L);obtain⟨A1,A2⟩:=HA.o w1;clear L c0 c1 c2 c3 c4 c5 I r0 J HA;go_wp2_with fail;refine⟨⟨k+1,rfl,D,by rw[HS.o],G⟩,?_⟩;simp only[intOf];omega
  have a1:¬(k:Int)<(q:Int):=zb2 D;obtain⟨s,K⟩:=qq (EC Lib.itoa (t.2.1.take k));obtain⟨s1,d⟩:=qq (s++[47]);have R:s=EC Lib.itoa t.2.1:=by rw[K,bE (oH HN.o.1)]
  have a5:Hi (s1=EC Lib.itoa t.2.1++[47]):=by unfold Hi;rw[d,R]
  have hz:s.length<=22*100000:=by rw[R];have h1:=zr2 t.2.1 Z.o.hi;have h2:=Z.o.hl;omega
  have HZ:Hi (s1.length<=22*100000+1):=by unfold Hi;rw[d,aA];simp;omega
  have A1:(Op.stringOp .add ⟨s.toArray⟩ ⟨#[47]⟩).run Tryz.prog wr=.ok (.string ⟨s1.toArray⟩) wr:=wi9 wr d (oH HZ.o);rw[<-K];clear K d R hz;go_wp2_with fail;obtain⟨W3,a6⟩:=qq (wr);subst a6;go_loopw [3,5] (λt3 t5 wr=>∃(k:Nat) (s:List UInt8),t5=nI (k:Nat)/\k<=n/\t3=.string ⟨s.toArray⟩/\Hi (s=s1++wa2 Lib.itoa (t.2.2.take k))/\Hi (Ok W wr)) (λ_ t5 _=>((n:Int)-intOf t5).toNat)
  case atStart=>exact⟨0,s1,rfl,dQ _,rfl,by simp[Hi,wa2],O⟩
  clear c0 c1 c2 c3 c4 c5 I J a1 D O hk A1;obtain⟨k,s,rfl,hk,rfl,HS,O⟩:=hrel;have J:Hi _:=Ok.row' O.o HP.o;obtain⟨c0,c1,c2,c3,c4,c5⟩:=za9 J.o;have I:=za2 J.o;by_cases D:k<n
  ·obtain⟨x,X⟩:∃x,t.2.2[k]?=some x:=⟨_,aJ (by rw[<-HN.o.2];exact D)⟩
   obtain⟨b,o,cp,e1,e2,e3⟩:=HT.o.loops.at (by decide) (k:=k) (by rw[<-HN.o.2];exact D)
   injection e1 with e4 e6 e5
   clear e6;subst e4 e5;have a2:Hi (I64 x.1/\I64 x.2):=Z.o.li _ (mG_ X);have a1:(k:Int)<(n:Int):=za5 D;have kw:IntKind.i64.wrap ((k:Int)+1)=((k+1:Nat):Int):=zb3 (by have h1:=Z.o.ll;have h2:=HN.o.2;omega)
   have HC:Hi (∀Y,Ok wr Y->Y.cell? (aD gp 2)=some (.slice (sA b o) n lc)/\gp<Y.heap.size/\Y.cell? ⟨b,o+k*2,none⟩=some (nI x.1)/\Y.cell? ⟨b,o+k*2+1,none⟩=some (nI x.2)/\b<Y.heap.size):=λY hY=>by have d:b<wr.heap.size:=lL_ e2 (HK.o.step O.o).le;refine⟨hY.cell (p:=⟨gp,2,none⟩) I c2,lL_ I hY.le,((HK.o.step O.o).step hY).cell (p:=⟨b,o+k*2,none⟩) e2 (e3 _ _ (zi1 _ _ _ X).1),((HK.o.step O.o).step hY).cell (p:=⟨b,o+k*2+1,none⟩) e2 (e3 (k*2+1) _ (zi1 _ _ _ X).2),lL_ d hY.le⟩
   obtain⟨s3,R⟩:=qq (s++Lib.itoa x.1);obtain⟨s4,d⟩:=qq (s3++[120]);obtain⟨s5,G⟩:=qq (s4++Lib.itoa x.2);obtain⟨s6,K⟩:=qq (s5++[32]);have a4:Hi (s6=s1++wa2 Lib.itoa (t.2.2.take (k+1))):=by unfold Hi;rw[yh1 _ X,K,G,d,R,HS.o];simp
   have hz:s6.length<=66*100000+1:=by rw[a4.o,aA];have h1:=zB4 (t.2.2.take (k+1)) λy hy=>Z.o.li y (dR hy);have h2:=Z.o.ll;have h3:=HZ.o;rw[bH]at h1;omega
   have HA:Hi (∀W,(Op.stringOp .add ⟨s.toArray⟩ ⟨(Lib.itoa x.1).toArray⟩).run Tryz.prog W=.ok (.string ⟨s3.toArray⟩) W/\(Op.stringOp .add ⟨s3.toArray⟩ ⟨#[120]⟩).run Tryz.prog W=.ok (.string ⟨s4.toArray⟩) W/\(Op.stringOp .add ⟨s4.toArray⟩ ⟨(Lib.itoa x.2).toArray⟩).run Tryz.prog W=.ok (.string ⟨s5.toArray⟩) W/\(Op.stringOp .add ⟨s5.toArray⟩ ⟨#[32]⟩).run Tryz.prog W=.ok (.string ⟨s6.toArray⟩) W):=λW=>by
    have z5:s5.length<=s6.length:=by rw[K,aA];omega
    have z4:s4.length<=s5.length:=by rw[G,aA];omega
    have z3:s3.length<=s4.length:=by rw[d,aA];omega
    exact⟨wi9 W R oM,wi9 W d oM,wi9 W G oM,wi9 W K oM⟩
   clear e2 e3 X R d G K hz c0 c1 c2 c3 c4 c5 J I HS;obtain⟨c2,I,r0,K,G⟩:=HC.o wr (Ok.refl wr)
   go_upto_region 12 with (fail)
   have d:Ok wr wr.drew:=Below.drew (Ok.refl wr);clear c2 I r0 K G;refine zd5 (λY=>Ok wr Y) 19 kR ?_;refine tK 0 (.string ⟨s.toArray⟩) d ?_;simp only[pu];refine tK 1 (pA gp 2) d ?_;simp only[pu];refine tL 2 (.slice (sA b o) n lc) d ?_ ?_
   ·intro w' G;obtain⟨z1,z2,z3,z4,z5⟩:=HC.o w' G;clear G;go_simp;try with_reducible rfl
   simp only[pu];refine tK 3 (nI (k:Nat)) d ?_;simp only[pu];refine tL 4 (.pointer (some ⟨b,o+k*2,none⟩)) d ?_ ?_
   ·intro w' G;have z7:(0:Int)<=(k:Int):=oM;have z8:¬((n:Int)<=(k:Int)):=oM;clear G;go_simp;try with_reducible rfl
   simp only[pu];refine tK 5 (.pointer (some ⟨b,o+k*2,none⟩)) d ?_;simp only[pu];refine tL 6 (nI x.1) d ?_ ?_
   ·intro w' G;obtain⟨z1,z2,z3,z4,z5⟩:=HC.o w' G;clear G;go_simp;try with_reducible rfl
   simp only[pu];refine tK 10 (pA gp 2) d ?_;simp only[pu];refine tL 11 (.slice (sA b o) n lc) d ?_ ?_
   ·intro w' G;obtain⟨z1,z2,z3,z4,z5⟩:=HC.o w' G;clear G;go_simp;try with_reducible rfl
   simp only[pu];refine tK 12 (nI (k:Nat)) d ?_;simp only[pu];refine tL 13 (.pointer (some ⟨b,o+k*2,none⟩)) d ?_ ?_
   ·intro w' G;have z7:(0:Int)<=(k:Int):=oM;have z8:¬((n:Int)<=(k:Int)):=oM;clear G;go_simp;try with_reducible rfl
   simp only[pu];refine tK 14 (.pointer (some ⟨b,o+k*2+1,none⟩)) d ?_;simp only[pu];refine tL 15 (nI x.2) d ?_ ?_
   ·intro w' G;obtain⟨z1,z2,z3,z4,z5⟩:=HC.o w' G;clear G;go_simp;try with_reducible rfl
   simp only[pu];refine zb0 (i:=7) kR rfl (λK hK=>?_);go_simp;refine mq (zB3 x.1 a2.o.1 _ (a3.o _ ((HK.o.step O.o).step d))) λD1 L=>?_;have S1:Ok wr D1:=d.step L;refine hK.out _ _ (λ_=>S1) ?_;clear hK K d L;have d:=S1;clear S1
   try simp only[pu]
   refine tL 8 (.string ⟨s3.toArray⟩) d ?_ ?_
   ·intro w' G;obtain⟨y1,y2,y3,y4⟩:=HA.o w';clear G;go_simp;try with_reducible rfl
   simp only[pu];refine tL 9 (.string ⟨s4.toArray⟩) d ?_ ?_
   ·intro w' G;obtain⟨y1,y2,y3,y4⟩:=HA.o w';clear G;go_simp;try with_reducible rfl
   simp only[pu];refine zb0 (i:=16) kR rfl (λK hK=>?_);go_simp;refine mq (zB3 x.2 a2.o.2 _ (a3.o _ ((HK.o.step O.o).step d))) λD2 L=>?_;have S1:Ok wr D2:=d.step L;refine hK.out _ _ (λ_=>S1) ?_;clear hK K d L;have d:=S1;clear S1
   try simp only[pu]
   refine tL 17 (.string ⟨s5.toArray⟩) d ?_ ?_
   ·intro w' G;obtain⟨y1,y2,y3,y4⟩:=HA.o w';clear G;go_simp;try with_reducible rfl
   simp only[pu];refine tL 18 (.string ⟨s6.toArray⟩) d ?_ ?_
   ·intro w' G;obtain⟨y1,y2,y3,y4⟩:=HA.o w';clear G;go_simp;try with_reducible rfl
   simp only[pu];refine zb0 (i:=19) kR rfl (λK hK=>?_);go_simp;refine hK.out _ _ (λh=>absurd rfl h) ?_;clear hK K;refine zd4 kR ?_ _;have K:=hid (O.o.step d);clear d O HA HC;go_wp2_with fail;refine⟨⟨k+1,s6,rfl,D,rfl,a4,K⟩,?_⟩;simp only[intOf];omega
  have a1:¬(k:Int)<(n:Int):=zb2 D;go_wp2_with fail;go_ret;refine⟨?_,HK.o.step O.o⟩;rw[HS.o,a5.o,HE.o,bE (oH HN.o.2)];simp
def ws0(w:World):(zeroValue 4).run Tryz.prog w=.ok (.bool false) w:=by kernel_rfl
structure MB(k:TypeId)(D:DataW Unit)(f:Value->Bool):Prop where
 mp:IsMap D
 val:∀key kl,keyOf Tryz.prog k key=some kl->D.atKey kl (.lit (.bool false))=.lit (.bool (f key))
def wa4(w:World)(k:TypeId)(b N:Nat)(f:Value->Bool):Prop:=∃n D,n<=N/\w.ownsMap Tryz.prog k (plainElem Tryz.prog 4) b n D/\MB k D f
def wa4.made(w:World)(k:TypeId):wa4 (w.alloc (.map #[] 0)) k w.heap.size 0 (λ_=>false):=⟨0,_,nR_ _,World.ownsMap_made w Tryz.prog k _,⟨[],rfl⟩,λ_ _ _=>rfl⟩
def wa4.kept{r:Option Nat}(h:wa4 w k b N f)(G:w.grownBy w' r)(d:some b≠r):wa4 w' k b N f:=by obtain⟨n,D,o,J,I⟩:=h;exact⟨n,D,o,J.kept G d,I⟩
def wa4.ok(h:wa4 w k b N f)(d:Ok w w'):wa4 w' k b N f:=h.kept (zu1 d) sI
def wa4.look(h:wa4 w k b N f)(K:Keyed Tryz.prog k)(O:Tryz.prog.underlying t=some (.map k 4)){d:Value}{I:Lit}(J:keyOf Tryz.prog k d=some I) :
  (Instr.lookup t (.map (some b)) d false).run Tryz.prog w=.ok (.bool (f d)) w:=by
 obtain⟨n,D,_,R,L⟩:=h;obtain⟨u,ps,o,G⟩:=R.lookup K O (ws0 w) (plainElem_bool Tryz.underlying4 false) J;rw[L.val d I J]at G;rw[o]
 cases u with
 | bool x =>
  rw[plainElem_bool Tryz.underlying4 x]at G;simp only[cD,fV,DataW.lit.injEq,Lit.bool.injEq]at G;rw[G.1]
 | _=>simp[plainElem,Tryz.underlying4]at G
def wa4.put{f':Value->Bool}(h:wa4 w k b N f)(K:Keyed Tryz.prog k)(ht:Tryz.prog.underlying t=some (.map k 4)){d:Value}{W:Lit}(G:keyOf Tryz.prog k d=some W)(hN:N<maxLen)(X:f' d=true)(Z:∀u,u≠d->f' u=f u) :
  ∃w',(Instr.mapUpdate t (.map (some b)) d (.bool true)).run Tryz.prog w=.ok () w'/\wa4 w' k b (N+1) f'/\w.grownBy w' (some b):=by
 obtain⟨n,D,hn,hD,O⟩:=h;obtain⟨w',o,J,Y⟩:=hD.update K ht oM G (plainElem_bool Tryz.underlying4 true);refine⟨w',o,⟨n+1,_,oM,J,?_,λu I L=>?_⟩,Y⟩
 ·obtain⟨es,rfl⟩:=O.mp
  exact⟨_,DataW.put_eq _ _ _⟩
 by_cases e:u=d
 ·subst e
  obtain rfl:W=I:=aI (G.symm.trans L);rw[X];exact atKey_put_same O.mp (K.key G) _ _
 have R:I≠W:=λX=>by subst X;exact e (K.inj L G)
 rw[atKey_put_other R,Z u e];exact O.val u I L
def FQ(w:World)(b N:Nat)(p:Int->Bool):Prop:=∃f,wa4 w 3 b N f/\∀x:Int,f (nI x)=p x
def wp7(h0 : -9223372036854775808<=x)(d:x<=9223372036854775807):keyOf Tryz.prog 3 (.int .i64 x)=some (.int .i64 x):=keyOf_int_mk Tryz.underlying3 (gwf h0 d)
def wl6:Keyed Tryz.prog 3:=int_keyed Tryz.underlying3
def FQ.made(w:World):FQ (w.alloc (.map #[] 0)) w.heap.size 0 (λ_=>false):=⟨_,wa4.made w 3,λ_=>rfl⟩
def FQ.ok{p:Int->Bool}(h:FQ w b N p)(o:Ok w w'):FQ w' b N p:=by obtain⟨f,d,D⟩:=h;exact⟨f,d.ok o,D⟩
def FQ.look{p:Int->Bool}(h:FQ w b N p)(G:Tryz.prog.underlying t=some (.map 3 4))(d : -9223372036854775808<=x)(D:x<=9223372036854775807) :
  (Instr.lookup t (.map (some b)) (nI x) false).run Tryz.prog w=.ok (.bool (p x)) w:=by
 obtain⟨f,o,I⟩:=h;rw[<-I x];exact o.look wl6 G (wp7 d D)
def FQ.put{p:Int->Bool}(h:FQ w b N p)(L:Tryz.prog.underlying t=some (.map 3 4))(d : -9223372036854775808<=x)(K:x<=9223372036854775807)(D:N<maxLen) :
  ∃w',(Instr.mapUpdate t (.map (some b)) (nI x) (.bool true)).run Tryz.prog w=.ok () w'/\FQ w' b (N+1) (λy=>y==x||p y)/\w.grownBy w' (some b):=by
 obtain⟨f,I,R⟩:=h
 classical
 obtain⟨w',G,O,o⟩:=I.put (f':=λu=>if u=nI x then true else f u) wl6 L (wp7 d K) D (by simp) (λu J=>by simp[J]);refine⟨w',G,⟨_,O,λy=>?_⟩,o⟩;by_cases c:y=x
 ·subst c;simp
 have:¬(nI y=nI x):=λe=>c (by injection e);simp only[this,cT,R y];simp[c]
def FR(w:World)(b N:Nat)(p:Int->Int):Prop:=∃f,CE w 3 b N f/\∀x:Int,(f (nI x)).getD 0=p x
def FR.made(w:World):FR (w.alloc (.map #[] 0)) w.heap.size 0 (λ_=>0):=⟨_,CE.made w 3,λ_=>rfl⟩
def FR.kept{p:Int->Int}{r:Option Nat}(h:FR w b N p)(o:w.grownBy w' r)(d:some b≠r):FR w' b N p:=by obtain⟨f,D,G⟩:=h;exact⟨f,D.kept o d,G⟩
def FR.ok{p:Int->Int}(h:FR w b N p)(o:Ok w w'):FR w' b N p:=by obtain⟨f,d,D⟩:=h;exact⟨f,d.ok o,D⟩
def FR.look{p:Int->Int}(h:FR w b N p)(G:Tryz.prog.underlying t=some (.map 3 3))(d : -9223372036854775808<=x)(D:x<=9223372036854775807) :
  (Instr.lookup t (.map (some b)) (nI x) false).run Tryz.prog w=.ok (nI (p x)) w:=by
 obtain⟨f,o,I⟩:=h;rw[<-I x];exact o.look wl6 G (wp7 d D)
def FR.put{p:Int->Int}(h:FR w b N p)(O:Tryz.prog.underlying t=some (.map 3 3))(d : -9223372036854775808<=x)(L:x<=9223372036854775807){z:Int}(o : -9223372036854775808<=z)(R:z<=9223372036854775807)(D:N<maxLen) :
  ∃w',(Instr.mapUpdate t (.map (some b)) (nI x) (nI z)).run Tryz.prog w=.ok () w'/\FR w' b (N+1) (λy=>if y=x then z else p y)/\w.grownBy w' (some b):=by
 obtain⟨f,J,X⟩:=h
 classical
 obtain⟨w',I,W,G⟩:=J.put (f':=λu=>if u=nI x then some z else f u) wl6 O (wp7 d L) o R D (by simp) (λu K=>by simp[K]);refine⟨w',I,⟨_,W,λy=>?_⟩,G⟩;by_cases c:y=x
 ·subst c;simp
 have:¬(nI y=nI x):=λe=>c (by injection e);simp only[this,cT,c,X y]
def kyF(vs:List Vx):Value->Option Int
 | .string s=>(vs.findIdx? λv=>decide (wa3 Lib.itoa v=s.data.toList)).map λk=>(k:Int)
 | _=>Option.none
def wm3(v:Vx):Value:=.string ⟨(wa3 Lib.itoa v).toArray⟩
def yG8(hv:∀v∈vs,CG v.2)(h:CG v.2):kyF vs (wm3 v)=(look vs v).map λk=>(k:Int):=by show((vs.findIdx? λx=>decide (wa3 Lib.itoa x=(wa3 Lib.itoa v))).map λk=>(k:Int))=_;unfold look;rw[zo7 (q:=λx=>decide (x=v)) λx d=>?_];exact eZ.2 ⟨λe=>yH3 zz7 (hv x d) h e,λe=>by rw[e]⟩
def yI0(hv:∀v∈vs,CG v.2)(h:CG v.2)(o:look vs v=Option.none):kyF (vs++[v]) (wm3 v)=some ((vs.length:Nat):Int):=by
 have d:∀x∈vs++[v],CG x.2:=λx D=>by
  rcases bA.1 D with h1 | h1
  ·exact hv x h1
  rw[aT.1 h1];exact h
 rw[yG8 d h];unfold look at o ⊢;rw[eX,o];simp[dX]
def yI1{u:Value}(d:u≠wm3 v):kyF (vs++[v]) u=kyF vs u:=by
 unfold kyF
 split
 ·rename_i s
  rw[eX]
  have:¬wa3 Lib.itoa v=s.data.toList:=λe=>d (by
   unfold wm3
   rw[e])
  cases vs.findIdx? λv=>decide (wa3 Lib.itoa v=s.data.toList) with
  | some k=>rfl
  | none=>simp[dX,this]
 rfl
def yG9{t:Tok}(h:TkB 100000 t):(wc9 Lib.itoa t).length<=6700000:=by
 unfold wc9
 split
 ·have:wa1.length=6:=rfl
  omega
 have d:=zr2 t.2.1 h.hi;have G:=zB4 t.2.2 h.li;have o:=h.hl;have D:=h.ll;rw[aA,aR];omega
def yG1{n:Int}{t:Tok}(d:I64 n)(h:TkB 100000 t):(wa3 Lib.itoa (n,t)).length<=6700100:=by unfold wa3;have o:=yG9 h;have D:=Lib.itoa_length_le n d.1 d.2;rw[aA,aR];show(Lib.itoa n).length+((wc9 Lib.itoa t).length+1)<=6700100;omega
def yI2(h:(wa3 Lib.itoa v).length<=100000000):keyOf Tryz.prog 9 (wm3 v)=some (.string (wa3 Lib.itoa v)):=by
 have e:(⟨(wa3 Lib.itoa v).toArray⟩:ByteArray).size=(wa3 Lib.itoa v).length:=by simp[ByteArray.size]
 have:=WideMaps.keyOf_string_mk (P:=Tryz.prog) Tryz.underlying9 (s:=⟨(wa3 Lib.itoa v).toArray⟩) (by rw[e];unfold maxLen;omega);simpa[wm3] using this
structure FA where
 gf:Nat
 ga:Nat
 gn:Nat
 gm:Nat
 km:Nat
 B:Nat
 a:Nat->Value
def FA.row(F:FA)(vv lv:Value):Array Value:=#[F.a 0,F.a 1,F.a 2,F.a 3,F.a 4,F.a 5,F.a 6,F.a 7,F.a 8,F.a 9,F.a 10,F.a 11,F.a 12,F.a 13,F.a 14,F.a 15,F.a 16,F.a 17,.map (some F.gm),vv,lv,.map (some F.ga),.map (some F.gn)]
def FA.F(F:FA):FF:=⟨F.gf,F.ga,F.gn,F.B,0,0,F.a⟩
structure QOk(w0:World)(F:FA)(p:Pl):Prop where
 f0:w0.heap.size<=F.gf
 a0:w0.heap.size<=F.ga
 n0:w0.heap.size<=F.gn
 fB:F.gf<F.B
 aB:F.ga<F.B
 nB:F.gn<F.B
 fa:F.gf≠F.ga
 fn:F.gf≠F.gn
 an:F.ga≠F.gn
 cap:F.a 11=nI (p.cap:Nat)
 mrg:FQ w0 F.gm F.km p.mgd
 tab:Lib.TabBelow Tryz.prog w0.heap.size w0 "internal/strconv.uint64pow10" .u64 Lib.pow10Tab
 small:p.cap<=10
structure QS(w0:World)(F:FA)(w:World)(vv lv:Value)(vs vm vc:List Vx)(ls:List Lk):Prop where
 ok:Ok w0 w
 le:F.B<=w.heap.size
 row:w.heap[F.gf]?=some (.cells (F.row vv lv) 67 (0,0))
 vo:EH w F.B vv vs
 lo:w.ownsRow F.B 78 3 lv ls.length (lkL ls)
 mp:CE w 9 F.ga vm.length (kyF vm)
 nm:FR w F.gn vc.length (λn=>(many vc n:Int))
def QS.step{F:FA}(h:QS w0 F w vv lv vs vm vc ls)(d:Ok w w'):QS w0 F w' vv lv vs vm vc ls :=
 ⟨h.ok.step d,aH h.le d.le,Ok.row' d h.row,h.vo.ok d,za1 h.lo d,h.mp.ok d,h.nm.ok d⟩
def QS.near{F:FA}(h:QS w0 F w vv lv vs vm vc ls)(K:QOk w0 F p){g:Nat}(I:w0.heap.size<=g)(L:g<F.B)(J:F.gf≠g)(D:w.grownBy w' (some g)) :
  Ok w0 w'/\F.B<=w'.heap.size/\w'.heap[F.gf]?=some (.cells (F.row vv lv) 67 (0,0))/\EH w' F.B vv vs/\w'.ownsRow F.B 78 3 lv ls.length (lkL ls):=by
 have d:∀b,b<w.heap.size->b≠g->w'.heap[b]?=w.heap[b]?:=λb G o=>D.block b G λe=>o (aI e);exact⟨h.ok.grown D (λb e=>by rw[<-aI e];exact I),aH h.le D.size,(d _ (za2 h.row) J).trans h.row,h.vo.far λb o G=>d b G oM,zb4 h.lo λb o=>d b (h.lo.lt b o).2 (by have O:=(h.lo.lt b o).1;omega)⟩
def QS.count{F:FA}(h:QS w0 F w vv lv vs vm vc ls)(d:QOk w0 F p)(G:FR w' F.gn (vc.length+1) (λn=>(many (vc++[v]) n:Int)))(o:w.grownBy w' (some F.gn)) :
  QS w0 F w' vv lv vs vm (vc++[v]) ls:=by
 obtain⟨I,D,L,K,J⟩:=h.near d d.n0 d.nB d.fn o;exact⟨I,D,L,K,J,h.mp.kept o (λe=>d.an (aI e)),by rw[aA];exact G⟩
def QS.put{F:FA}(h:QS w0 F w vv lv vs vm vc ls)(d:QOk w0 F p)(G:CE w' 9 F.ga (vm.length+1) (kyF (vm++[v])))(o:w.grownBy w' (some F.ga)) :
  QS w0 F w' vv lv vs (vm++[v]) vc ls:=by
 obtain⟨I,D,L,K,J⟩:=h.near d d.a0 d.aB d.fa o;exact⟨I,D,L,K,J,by rw[aA];exact G,h.nm.kept o (λe=>d.an (aI e).symm)⟩
def yH6(F:FA)(vv lv d:Value):(F.row vv lv).setIfInBounds 19 d=F.row d lv:=rfl
def yH0(F:FA)(vv lv d:Value):(F.row vv lv).setIfInBounds 20 d=F.row vv d:=rfl
def FR.set{p:Int->Int}(h:FR w b N p){q:Addr}(d:b≠q.block)(v:Value):FR (w.setCell q v) b N p:=by obtain⟨f,o,D⟩:=h;exact⟨f,o.set d v,D⟩
def QS.push{F:FA}{G:Value}(h:QS w0 F w vv lv vs vm vc ls)(D:QOk w0 F p){v:Vx}{x:Value×Value}{O:List (Value×Value)}(L:O.length=vs.length)(o:w.ownsRow F.B 76 4 vv vs.length (vxL vs O))(R:∀(i:Nat) (v:Vx) (x:Value×Value),vs[i]?=some v->O[i]?=some x->AD w F.B x.1 x.2 v.2)(hx:AD w F.B x.1 x.2 v.2)
  (Y:w'.ownsRow F.B 76 4 G (vs.length+1) (vxL vs O++[nI v.1,.bool v.2.1,x.1,x.2])) (J:w.grownBy w' vv.ownBlock):QS w0 F (w'.setCell (aD F.gf 19) G) G lv (vs++[v]) vm vc ls:=by
 have Z:∀b,b<F.B->w'.heap[b]?=w.heap[b]?:=λb X=>J.block b (lL_ X h.le) λe=>zf4 o X e.symm;have W:∀(y:Value×Value) (u:Tok),AD w F.B y.1 y.2 u->AD (w'.setCell (aD F.gf 19) G) F.B y.1 y.2 u:=λy u I=>⟨zc7 (zd6 I.hist o dC J) (zf4 I.hist D.fB) _,zc7 (zd6 I.loops o dC J) (zf4 I.loops D.fB) _⟩;refine⟨(h.ok.grown J (λb e=>by have h1:=(o.lt b e).1;have h2:=D.f0;have d:=D.fB;omega)).set D.f0 _,by have h1:=h.le;have h2:=J.size;simp;omega,?_,?_,zc7 (zd6 h.lo o (by decide) J) (zf4 h.lo D.fB) _,(h.mp.kept J (λe=>zf4 o D.aB e.symm)).set (λe=>D.fa e.symm) _,(h.nm.kept J (λe=>zf4 o D.nB e.symm)).set (λe=>D.fn e.symm) _⟩
 ·rw[<-yH6 F vv lv G]
  exact heap_setCell_same _ _ _ _ _ _ ((Z _ D.fB).trans h.row)
 refine⟨O++[x],by rw[aA,aA,L];rfl,?_,?_⟩
 ·rw[yy4 L,aA,aZ]
  exact zc7 Y (zf4 Y D.fB) _
 intro i u y K I;by_cases c:i<vs.length
 ·rw[aQ c]at K
  rw[aQ oM]at I;exact W y _ (R i u y K I)
 rw[bC oM]at K;rw[bC oM,L]at I;by_cases d:i=vs.length
 ·subst d
  simp only[eJ,bR,cD]at K I;subst K I;exact W x _ hx
 rw[aS (by simp;omega)]at K;cases K
def QS.link{F:FA}{o:Value}(h:QS w0 F w vv lv vs vm vc ls)(d:QOk w0 F p){l:Lk}(G:w'.ownsRow F.B 78 3 o (ls.length+1) (lkL ls++[nI (l.1:Nat),nI (l.2.1:Nat),nI (l.2.2:Nat)]))(D:w.grownBy w' lv.ownBlock) :
  QS w0 F (w'.setCell (aD F.gf 20) o) vv o vs vm vc (ls++[l]):=by
 have O:∀b,b<F.B->w'.heap[b]?=w.heap[b]?:=λb G=>D.block b (lL_ G h.le) λe=>zf4 h.lo G e.symm;obtain⟨R,K,I,L⟩:=h.vo;have W:∀(y:Value×Value) (u:Tok),AD w F.B y.1 y.2 u->AD (w'.setCell (aD F.gf 20) o) F.B y.1 y.2 u:=λy u J=>⟨zc7 (zd6 J.hist h.lo dC D) (zf4 J.hist d.fB) _,zc7 (zd6 J.loops h.lo dC D) (zf4 J.loops d.fB) _⟩;refine⟨(h.ok.grown D (λb e=>by have K:=(h.lo.lt b e).1;have I:=d.f0;have L:=d.fB;omega)).set d.f0 _,by have K:=h.le;have I:=D.size;simp;omega,?_,⟨R,K,zc7 (zd6 I h.lo (by decide) D) (zf4 I d.fB) _,λi v x Y X=>W x _ (L i v x Y X)⟩,?_,(h.mp.kept D (λe=>zf4 h.lo d.aB e.symm)).set (λe=>d.fa e.symm) _,(h.nm.kept D (λe=>zf4 h.lo d.nB e.symm)).set (λe=>d.fn e.symm) _⟩
 ·rw[<-yH0 F vv lv o]
  exact heap_setCell_same _ _ _ _ _ _ ((O _ d.fB).trans h.row)
 rw[yy5,aA,aZ];exact zc7 G (zf4 G d.fB) _
def QS.cells{F:FA}(h:QS w0 F w vv lv vs vm vc ls)(d:QOk w0 F p) :
  w.cell? (aD F.gf 11)=some (nI (p.cap:Nat))/\w.cell? (aD F.gf 18)=some (.map (some F.gm))/\w.cell? (aD F.gf 19)=some vv/\w.cell? (aD F.gf 20)=some lv/\w.cell? (aD F.gf 21)=some (.map (some F.ga))/\w.cell? (aD F.gf 22)=some (.map (some F.gn))/\(∀o,w.frozen? (aD F.gf o)=false)/\F.gf<w.heap.size :=
 ⟨(cell_of_row _ _ 11 _ _ _ h.row).trans (by rw[<-d.cap];rfl),(cell_of_row _ _ 18 _ _ _ h.row).trans rfl,(cell_of_row _ _ 19 _ _ _ h.row).trans rfl,(cell_of_row _ _ 20 _ _ _ h.row).trans rfl,(cell_of_row _ _ 21 _ _ _ h.row).trans rfl,(cell_of_row _ _ 22 _ _ _ h.row).trans rfl,λo=>frozen_of_row _ _ _ _ _ h.row,za2 h.row⟩
def wj6(w0:World)(F:FA)(p:Pl)(lv:Value)(vs:List Vx)(ls:List Lk)(k:Nat)(t:Tok)(w:World)(vv:Value)(e:Ending)(w':World):Prop :=
 match p.vert vs (k:Int) t with
 | none=>e=.returned (.tuple #[nI 0,.bool false])/\QS w0 F w' vv lv vs vs vs ls/\VK F.F w vv w' vv
 | some r=>e=.returned (.tuple #[nI (r.2:Nat),.bool true])/\∃vv',QS w0 F w' vv' lv r.1 r.1 r.1 ls/\VJ p r.1/\VK F.F w vv w' vv'
def yF3{F:FA}(h:QS w0 F w vv lv vs vs vs ls)(Z:QOk w0 F p)(hJ:VJ p vs){k:Nat}(hk:k<=10000)(hd:(k:Int)=0\/∃e∈p.es,e.to'=(k:Int))(t:Tok)(hv i2:Value)(R:AD w F.B hv i2 t)(I:CG t)(K:TkB vs.length t)(D:vs.length<=100000) :
  Calls Tryz.prog 34 #[pA F.gf 0,nI (k:Nat),.agg #[.bool t.1,hv,i2]] w λe w'=>wj6 w0 F p lv vs ls k t w vv e w':=by
 have HS:=hid h;have J:=hid Z;have HJ:=hid hJ;have HD:=hid hd;have HT:=hid R;have HO:Hi (CG t/\TkB vs.length t/\vs.length<=100000):=⟨I,K,D⟩;have HI:Hi (I64 (k:Int)):=by unfold Hi I64;omega
 obtain⟨m,hm⟩:=qq (p.mgd (k:Int));have HM:Hi (m=p.mgd (k:Int)):=hm;obtain⟨tl,z1,z2,z3⟩:=h.vo;obtain⟨vo,vc,rfl⟩:=za0 z2;obtain⟨vn,o⟩:=qq (vs.length);have b9:Hi (vn=vs.length):=o;rw[<-o]at HS;rw[<-o];obtain⟨ho,hc,rfl⟩:=za0 R.hist;obtain⟨lo,lc,rfl⟩:=za0 R.loops;obtain⟨q,hq⟩:=qq (t.2.1.length);obtain⟨n,hn⟩:=qq (t.2.2.length);obtain⟨tm,G⟩:=qq (t.1);have HQ:Hi (tm=t.1):=G;rw[<-hq,<-hn]at HT;rw[<-hq,<-hn,<-G];obtain⟨X,Y⟩:=qq (w.alloc (Obj.cells #[.bool tm,.slice ho q hc,.slice lo n lc] 74));obtain⟨L,d⟩:=qq (w.heap.size);have d2:Hi (Ok w X):=by rw[Y];exact(Ok.refl w).alloc _
 have f9:Hi (X.heap[L]?=some (.cells #[.bool tm,.slice ho q hc,.slice lo n lc] 74 (0,0))):=by rw[Y,d];exact za3 _ _
 have g7:Hi (L=w.heap.size):=d;have i3:=hid (HS.o.step d2.o);have O:(Instr.lookup 62 (.map (some F.gm)) (nI (k:Nat)) false).run Tryz.prog X=.ok (.bool m) X:=by rw[hm];exact(Z.mrg.ok i3.o.ok).look Tryz.underlying62 HI.o.1 HI.o.2
 obtain⟨b6,a3,a6,b7,a7,a9,b8,W⟩:=i3.o.cells Z;clear h Z hJ hk hd R I K D hm hq hn G z1 z2 z3 o;go_enter Tryz.func34,Tryz.ntmps34
 go_upto_region 1 with (fail)
 rw[<-Y,<-d];clear Y d
 go_upto_if 16 with (fail)
 obtain⟨t',d⟩:=qq (p.tok (k:Int) t);have d0:=hid d;clear d
 go_cut [] from 11 to 77 (λwx=>∃(tb:Bool) (xo:Option Addr) (xn xc:Nat) (yo:Option Addr) (yn yc:Nat),Hi (Ok w wx/\wx.heap[L]?=some (.cells #[.bool tb,.slice xo xn xc,.slice yo yn yc] 74 (0,0))/\tb=t'.1/\AD wx F.B (.slice xo xn xc) (.slice yo yn yc) t'/\CG t'/\TkB vs.length t'))
 case first =>
  cases m with
  | false =>
   go_wp2_with fail
   go_meet
   case rel =>
    have d:t'=t:=by rw[d0.o];unfold Pl.tok;rw[aC (by rw[<-HM.o];decide)]
    rw[d];exact⟨_,_,_,_,_,_,_,d2.o,f9.o,HQ.o,HT.o.ok d2.o,HO.o.1,HO.o.2.1⟩
  | true =>
   go_wp2_with (first|(refine za8 rfl 74 _ _ rfl L 74 _ #[.bool true,sZ,sZ] (by rfl) (by rfl) f9.o EV rfl (by simp[Value.oneCell']) ?_)|fail)
   go_meet
   case rel =>
    have d:t'=EG:=by rw[d0.o];unfold Pl.tok;rw[aG HM.o.symm]
    rw[d];exact⟨_,_,_,_,_,_,_,zd0 d2.o (oH g7.o) _,setRow_heap _ _ _ _ _ _ f9.o,rfl,⟨World.ownsRow_nil _ _ _ _,World.ownsRow_nil _ _ _ _⟩,λ_=>rfl,⟨by simp[EG],by simp[EG],by simp[EG],by simp[EG]⟩⟩
 obtain⟨tb,xo,xn,xc,yo,yn,yc,HC⟩:=hcut;clear b6 a3 a6 b7 a7 a9 b8 W O;have O:=hid (HS.o.step HC.o.1);have f2:=hid (HC.o.2.2.2.2.2.up HO.o.2.2)
 have g9:Hi (∀Y,Ok wc Y->Y.cell? (aD L 0)=some (.bool tb)/\Y.cell? (aD L 1)=some (.slice xo xn xc)/\Y.cell? (aD L 2)=some (.slice yo yn yc)/\L<Y.heap.size):=λY hY=>by have h5:=Ok.row' hY HC.o.2.1;obtain⟨b0,b1,b2,_⟩:=za9 h5;exact⟨b0,b1,b2,za2 h5⟩
 have f3:Hi (∀Y,Ok wc Y->Calls Tryz.prog 56 #[.agg #[.bool tb,.slice xo xn xc,.slice yo yn yc]] Y λe w'=>e=.returned (.string ⟨(wc9 Lib.itoa t').toArray⟩)/\Ok Y w'):=λY hY=>by rw[HC.o.2.2.1];exact yA9 _ _ t' Y (HC.o.2.2.2.1.ok hY).is f2.o (λw' d=>J.o.tab w' (Below.trans (O.o.ok.step hY) (d.mono (O.o.ok.step hY).le)))
 have R:Hi (∀Y,Ok wc Y->Calls Tryz.prog 55 #[nI (k:Nat)] Y λe w'=>e=.returned (.string ⟨(Lib.itoa (k:Int)).toArray⟩)/\Ok Y w'):=λY hY=>zB3 _ HI.o Y (J.o.tab Y (O.o.ok.step hY));obtain⟨s1,d⟩:=qq (Lib.itoa (k:Int));obtain⟨s2,o⟩:=qq (s1++[32]);obtain⟨s3,G⟩:=qq (wc9 Lib.itoa t');obtain⟨ks,D⟩:=qq (s2++s3);have c9:Hi (ks=wa3 Lib.itoa ((k:Int),t')):=by unfold Hi wa3;rw[D,o,d,G];simp
 have I:s2.length<=1000:=by rw[o,aA,d];have:=Lib.itoa_length_le (k:Int) HI.o.1 HI.o.2;simp;omega
 have K:ks.length<=100000000:=by rw[c9.o];exact aH (yG1 HI.o f2.o) oM
 have HA:Hi (∀Y:World,(Op.stringOp .add ⟨s1.toArray⟩ ⟨#[32]⟩).run Tryz.prog Y=.ok (.string ⟨s2.toArray⟩) Y/\(Op.stringOp .add ⟨s2.toArray⟩ ⟨s3.toArray⟩).run Tryz.prog Y=.ok (.string ⟨ks.toArray⟩) Y):=λY=>⟨wi9 Y o oM,wi9 Y D oM⟩;rw[<-d]at R;rw[<-G]at f3;clear d o G D I K
 go_upto_region 3 with (fail)
 have G:Ok wc wc.drew:=Below.drew (Ok.refl wc);refine zd5 (λY=>Ok wc Y) 6 kR ?_;obtain⟨D,hD⟩:=qq (wc.drew);rw[<-hD]at G ⊢;clear hD;refine tK 0 (nI (k:Nat)) G ?_;simp only[pu];refine tL 3 (.agg #[.bool tb,.slice xo xn xc,.slice yo yn yc]) G ?_ ?_
 ·intro w' d;obtain⟨o,z1,z2,z3⟩:=g9.o w' d;clear d;go_simp;try with_reducible rfl
 simp only[pu];refine zb0 (i:=1) kR rfl (λK Z=>?_);go_simp;refine mq (R.o D G) λD1 o=>?_;have S1:Ok wc D1:=G.step o;refine Z.out _ _ (λ_=>S1) ?_;clear Z K o G
 try simp only[pu]
 refine tL 2 (.string ⟨s2.toArray⟩) S1 ?_ ?_
 ·intro w' d;obtain⟨A1,A2⟩:=HA.o w';clear d;go_simp;try with_reducible rfl
 simp only[pu];refine zb0 (i:=4) kR rfl (λK Z=>?_);go_simp;refine mq (f3.o D1 S1) λD2 I=>?_;have o:Ok wc D2:=S1.step I;refine Z.out _ _ (λ_=>o) ?_;clear Z K I S1
 try simp only[pu]
 refine tL 5 (.string ⟨ks.toArray⟩) o ?_ ?_
 ·intro w' d;obtain⟨A1,A2⟩:=HA.o w';clear d;go_simp;try with_reducible rfl
 simp only[pu];refine zb0 (i:=6) kR rfl (λK Z=>?_);go_simp;refine Z.out _ _ (λh=>absurd rfl h) ?_;clear Z K;refine zd4 kR ?_ _;have c2:=hid (HC.o.1.step o);have I:=hid (HS.o.step c2.o);have d4:Hi (D2.heap[L]?=_):=Ok.row' o HC.o.2.1;have d9:=hid (HC.o.2.2.2.1.ok o);have c5:Hi (tb=t'.1/\CG t'/\TkB vs.length t'):=⟨HC.o.2.2.1,HC.o.2.2.2.2⟩;clear o g9 f3 R HA HC O;obtain⟨b6,a3,a6,b7,a7,a9,b8,W⟩:=I.o.cells J.o;have i6:Hi (keyOf Tryz.prog 9 (.string ⟨ks.toArray⟩)=some (.string (wa3 Lib.itoa ((k:Int),t')))):=by rw[c9.o];exact yI2 (aH (yG1 HI.o f2.o) oM)
 have d5:Hi ((Instr.lookup 64 (.map (some F.ga)) (.string ⟨ks.toArray⟩) true).run Tryz.prog D2=.ok (.tuple #[nI ((kyF vs (.string ⟨ks.toArray⟩)).getD 0),.bool (kyF vs (.string ⟨ks.toArray⟩)).isSome]) D2):=I.o.mp.look_ok wm6 Tryz.underlying64 i6.o;have i5:Hi (kyF vs (.string ⟨ks.toArray⟩)=(look vs ((k:Int),t')).map λj=>(j:Int)):=by rw[c9.o];exact yG8 HJ.o.tok c5.o.2.1
 cases hl:look vs ((k:Int),t') with
 | some j =>
  have f6:(Instr.lookup 64 (.map (some F.ga)) (.string ⟨ks.toArray⟩) true).run Tryz.prog D2=.ok (.tuple #[nI (j:Nat),.bool true]) D2:=by have h1:=d5.o;rw[i5.o,hl]at h1;exact h1
  have HV:Hi (p.vert vs (k:Int) t=some (vs,j)):=by unfold Hi Pl.vert;rw[<-d0.o,hl]
  clear hl;go_wp2_with fail;(try simp only[Exit.inBlock,Exit.then]);refine bodyPost_ret (results_tmp2 rfl _ _ _) rfl ?_;unfold wj6;rw[HV.o];exact⟨rfl,_,I.o,HJ.o,VK.ok c2.o⟩
 | none =>
  have f6:(Instr.lookup 64 (.map (some F.ga)) (.string ⟨ks.toArray⟩) true).run Tryz.prog D2=.ok (.tuple #[nI 0,.bool false]) D2:=by have h1:=d5.o;rw[i5.o,hl]at h1;exact h1
  have HL:=hid hl;obtain⟨c,o⟩:=qq (many vs (k:Int));have HC:Hi (c=many vs (k:Int)):=o;clear hl o;by_cases o:c=p.cap
  ·have hb:((c:Int)==(p.cap:Int))=true:=by rw[o];simp
   have HV:Hi (p.vert vs (k:Int) t=Option.none):=by unfold Hi Pl.vert;rw[<-d0.o,HL.o];show(if many vs (k:Int)=p.cap then Option.none else _)=_;rw[<-HC.o,aG o]
   clear o
   go_upto_region 7 with (fail)
   clear b6 a3 a6 b7 a7 a9 b8 W f6;refine wp_region_held_drew (S:=λw'=>Ok D2 w') kR (Below.drew (Ok.refl _)) (λG=>?_);obtain⟨D3,hD⟩:=qq (D2.drew);rw[<-hD]at G ⊢;clear hD;refine tJ 0 (pA F.gf 0) G ?_;simp only[pu];refine tH 1 (pA F.gf 0) ?_ G ?_
   ·intro w' d;obtain⟨u11,u18,u19,u20,u21,u22,R,O⟩:=(I.o.step d).cells J.o;clear d;go_simp;try with_reducible rfl
   simp only[pu];refine tH 2 (pA F.gf 22) ?_ G ?_
   ·intro w' d;obtain⟨u11,u18,u19,u20,u21,u22,R,O⟩:=(I.o.step d).cells J.o;clear d;go_simp;try with_reducible rfl
   simp only[pu];refine tH 3 (.map (some F.gn)) ?_ G ?_
   ·intro w' d;obtain⟨u11,u18,u19,u20,u21,u22,R,O⟩:=(I.o.step d).cells J.o;clear d;go_simp;try with_reducible rfl
   simp only[pu];refine tJ 4 (nI (k:Nat)) G ?_;simp only[pu];refine tH 5 (nI (c:Nat)) ?_ G ?_
   ·intro w' d;have f7:=(I.o.nm.ok d).look Tryz.underlying65 HI.o.1 HI.o.2;rw[<-HC.o]at f7;clear d;go_simp;try with_reducible rfl
   simp only[pu];refine tJ 6 (pA F.gf 0) G ?_;simp only[pu];refine tH 7 (pA F.gf 0) ?_ G ?_
   ·intro w' d;obtain⟨u11,u18,u19,u20,u21,u22,R,O⟩:=(I.o.step d).cells J.o;clear d;go_simp;try with_reducible rfl
   simp only[pu];refine tH 8 (pA F.gf 9) ?_ G ?_
   ·intro w' d;obtain⟨u11,u18,u19,u20,u21,u22,R,O⟩:=(I.o.step d).cells J.o;clear d;go_simp;try with_reducible rfl
   simp only[pu];refine tH 9 (pA F.gf 11) ?_ G ?_
   ·intro w' d;obtain⟨u11,u18,u19,u20,u21,u22,R,O⟩:=(I.o.step d).cells J.o;clear d;go_simp;try with_reducible rfl
   simp only[pu];refine tH 10 (nI (p.cap:Nat)) ?_ G ?_
   ·intro w' d;obtain⟨u11,u18,u19,u20,u21,u22,R,O⟩:=(I.o.step d).cells J.o;clear d;go_simp;try with_reducible rfl
   simp only[pu];refine tJ 11 (.bool true) G ?_;simp only[pu];refine wpAnyH_done kR ?_ _;have c4:=hid (c2.o.step G);have c0:=hid (I.o.step G);have g1:Hi (D3.heap[L]?=_):=Ok.row' G d4.o;have g8:=hid (d9.o.ok G);clear G I d4 d9 c2 d5;obtain⟨b6,a3,a6,b7,a7,a9,b8,W⟩:=c0.o.cells J.o;go_wp2_with fail;(try simp only[Exit.inBlock,Exit.then]);refine bodyPost_ret (results_tmp2 rfl _ _ _) rfl ?_;unfold wj6;rw[HV.o];exact⟨rfl,c0.o,VK.ok c4.o⟩
  have hb:((c:Int)==(p.cap:Int))=false:=by rw[aF];omega
  have i8:=hid o;have g4:Hi (c<=10):=by have h1:=HJ.o.vi.cnt (k:Int);have h2:=HC.o;have h3:=J.o.small;unfold Hi;omega
  have kw:IntKind.i64.wrap ((c:Int)+1)=(c:Int)+1:=by have:=g4.o;rw[IntKind.wrap_i64];omega
  clear o
  go_upto_region 7 with (fail)
  clear b6 a3 a6 b7 a7 a9 b8 W f6;refine wp_region_held_drew (S:=λw'=>Ok D2 w') kR (Below.drew (Ok.refl _)) (λG=>?_);obtain⟨D3,hD⟩:=qq (D2.drew);rw[<-hD]at G ⊢;clear hD;refine tJ 0 (pA F.gf 0) G ?_;simp only[pu];refine tH 1 (pA F.gf 0) ?_ G ?_
  ·intro w' d;obtain⟨u11,u18,u19,u20,u21,u22,R,O⟩:=(I.o.step d).cells J.o;clear d;go_simp;try with_reducible rfl
  simp only[pu];refine tH 2 (pA F.gf 22) ?_ G ?_
  ·intro w' d;obtain⟨u11,u18,u19,u20,u21,u22,R,O⟩:=(I.o.step d).cells J.o;clear d;go_simp;try with_reducible rfl
  simp only[pu];refine tH 3 (.map (some F.gn)) ?_ G ?_
  ·intro w' d;obtain⟨u11,u18,u19,u20,u21,u22,R,O⟩:=(I.o.step d).cells J.o;clear d;go_simp;try with_reducible rfl
  simp only[pu];refine tJ 4 (nI (k:Nat)) G ?_;simp only[pu];refine tH 5 (nI (c:Nat)) ?_ G ?_
  ·intro w' d;have f7:=(I.o.nm.ok d).look Tryz.underlying65 HI.o.1 HI.o.2;rw[<-HC.o]at f7;clear d;go_simp;try with_reducible rfl
  simp only[pu];refine tJ 6 (pA F.gf 0) G ?_;simp only[pu];refine tH 7 (pA F.gf 0) ?_ G ?_
  ·intro w' d;obtain⟨u11,u18,u19,u20,u21,u22,R,O⟩:=(I.o.step d).cells J.o;clear d;go_simp;try with_reducible rfl
  simp only[pu];refine tH 8 (pA F.gf 9) ?_ G ?_
  ·intro w' d;obtain⟨u11,u18,u19,u20,u21,u22,R,O⟩:=(I.o.step d).cells J.o;clear d;go_simp;try with_reducible rfl
  simp only[pu];refine tH 9 (pA F.gf 11) ?_ G ?_
  ·intro w' d;obtain⟨u11,u18,u19,u20,u21,u22,R,O⟩:=(I.o.step d).cells J.o;clear d;go_simp;try with_reducible rfl
  simp only[pu];refine tH 10 (nI (p.cap:Nat)) ?_ G ?_
  ·intro w' d;obtain⟨u11,u18,u19,u20,u21,u22,R,O⟩:=(I.o.step d).cells J.o;clear d;go_simp;try with_reducible rfl
  simp only[pu];refine tJ 11 (.bool false) G ?_;simp only[pu];refine wpAnyH_done kR ?_ _;have c4:=hid (c2.o.step G);have c0:=hid (I.o.step G);have g1:Hi (D3.heap[L]?=_):=Ok.row' G d4.o;have g8:=hid (d9.o.ok G);clear G I d4 d9 c2 d5;obtain⟨b6,a3,a6,b7,a7,a9,b8,W⟩:=c0.o.cells J.o;have h9:(Instr.lookup 65 (.map (some F.gn)) (nI (k:Nat)) false).run Tryz.prog D3=.ok (nI (c:Nat)) D3:=by have h:=c0.o.nm.look Tryz.underlying65 HI.o.1 HI.o.2;rw[<-HC.o]at h;exact h
  obtain⟨D4,d1,f8,c3⟩:=c0.o.nm.put Tryz.underlying65 (x:=(k:Int)) HI.o.1 HI.o.2 (z:=(c:Int)+1) oM (oH g4.o) (by have:=HO.o.2.2;unfold maxLen;omega)
  have e4:(λy:Int=>if y=(k:Int) then (c:Int)+1 else (many vs y:Int))=λn=>(many (vs++[((k:Int),t')]) n:Int):=by
   funext y
   rw[zP5];by_cases hy:y=(k:Int)
   ·subst hy;simp[HC.o]
   have o:¬(k:Int)=y:=λe=>hy e.symm;rw[aC hy,aC (show ¬(((k:Int),t'):Vx).1=y from o)];simp
  rw[e4]at f8;have a4:=hid (c0.o.count J.o f8 c3);have HG:Hi (L≠F.gn/\L≠F.gf/\L≠F.ga/\F.B<=L):=by have h1:=g7.o;have h2:=HS.o.le;have h3:=J.o.fB;have h4:=J.o.aB;have h5:=J.o.nB;unfold Hi;omega
  have f1:Hi (D4.heap[L]?=_):=(c3.block L (za2 g1.o) (λe=>HG.o.1 (aI e))).trans g1.o;have i0:=hid (g8.o.kept c3 J.o.nB);have a5:Hi (VK F.F w (.slice vo vn vc) D4 (.slice vo vn vc)):=⟨Nat.le_trans c4.o.le c3.size,λb o h0 h1 h2 h3 h4=>(c3.block b (za2 (Ok.row' c4.o h0)) (λe=>h3 (aI e))).trans (Ok.row' c4.o h0),λb e=>.inl e⟩;clear e4 f8 c3
  go_upto_region 10 with (fail)
  clear b6 a3 a6 b7 a7 a9 b8 W d1 h9 kw;obtain⟨b6,a3,a6,b7,a7,a9,b8,W⟩:=a4.o.cells J.o;obtain⟨D5,d1,h8,a2⟩:=a4.o.mp.put (f':=kyF (vs++[((k:Int),t')])) wm6 Tryz.underlying64 i6.o (y:=(vn:Nat)) oM (oK HO.o.2.2 b9.o) (by have:=HO.o.2.2;unfold maxLen;omega) (by rw[c9.o,b9.o];exact yI0 HJ.o.tok c5.o.2.1 HL.o) (by intro u hu;rw[c9.o]at hu;exact yI1 hu);have g0:=hid (a4.o.put J.o h8 a2);have c6:Hi (D5.heap[L]?=_):=(a2.block L (za2 f1.o) (λe=>HG.o.2.2.1 (aI e))).trans f1.o;have i9:=hid (i0.o.kept a2 J.o.aB);have j1:Hi (VK F.F w (.slice vo vn vc) D5 (.slice vo vn vc)):=⟨Nat.le_trans a5.o.size a2.size,λb o h0 h1 h2 h3 h4=>(a2.block b (za2 (a5.o.far b o h0 h1 h2 h3 h4)) (λe=>h2 (aI e))).trans (a5.o.far b o h0 h1 h2 h3 h4),λb e=>.inl e⟩;clear h8 a2 a4 f1 i0 a5
  go_upto_region 12 with (fail)
  clear b6 a3 a6 b7 a7 a9 b8 W d1;obtain⟨tl,h7,g3,f0⟩:=g0.o.vo;rw[<-b9.o]at g3;have f4:Hi (tl.length=vs.length/\D5.ownsRow F.B 76 4 (.slice vo vn vc) vn (vxL vs tl)/\∀(i:Nat) (v:Vx) (x:Value×Value),vs[i]?=some v->tl[i]?=some x->AD D5 F.B x.1 x.2 v.2):=⟨h7,g3,f0⟩;clear h7 g3 f0;obtain⟨_,_,a8,_,_,_,d8,W⟩:=g0.o.cells J.o;obtain⟨b0,b1,b2,b3,b4,b5⟩:=za9 c6.o;have a1:=za2 c6.o;have G:(D5.drew.cell? (aD F.gf 19)=some (.slice vo vn vc)/\D5.drew.cell? (aD L 0)=some (.bool tb)/\D5.drew.cell? (aD L 1)=some (.slice xo xn xc)/\D5.drew.cell? (aD L 2)=some (.slice yo yn yc)/\F.gf<D5.drew.heap.size/\L<D5.drew.heap.size):=⟨a8,b0,b1,b2,W,a1⟩;clear b0 b1 b2 b3 b4 b5 a1 a8 d8 W;refine zd5 (λY=>(Y.cell? (aD F.gf 19)=some (.slice vo vn vc)/\Y.cell? (aD L 0)=some (.bool tb)/\Y.cell? (aD L 1)=some (.slice xo xn xc)/\Y.cell? (aD L 2)=some (.slice yo yn yc)/\F.gf<Y.heap.size/\L<Y.heap.size)) 12 kR ?_;refine tK 0 (pA F.gf 0) G ?_;simp only[pu];refine tK 1 (pA F.gf 0) G ?_;simp only[pu];refine tK 2 (pA F.gf 0) G ?_;simp only[pu];refine tK 3 (pA F.gf 19) G ?_;simp only[pu];refine tL 4 (.slice vo vn vc) G ?_ ?_
  ·intro w' d;obtain⟨q1,q2,q3,q4,q5,q6⟩:=d;go_simp;try with_reducible rfl
  simp only[pu];refine tK 5 (nI (k:Nat)) G ?_;simp only[pu];refine tL 6 (.agg #[.bool tb,.slice xo xn xc,.slice yo yn yc]) G ?_ ?_
  ·intro w' d;obtain⟨q1,q2,q3,q4,q5,q6⟩:=d;go_simp;try with_reducible rfl
  simp only[pu];refine tK 7 (.agg #[nI (k:Nat),.bool tb,.slice xo xn xc,.slice yo yn yc]) G ?_;simp only[pu];refine zb0 (i:=8) kR rfl (λK Z=>?_);go_simp;obtain⟨W4,d6⟩:=qq ((D5.alloc (Obj.cells #[nI (k:Nat),.bool tb,.slice xo xn xc,.slice yo yn yc] 76)).drew);have c1:Hi (Ok D5 W4):=by rw[d6];exact Below.drew ((Ok.refl D5).alloc _)
  have i7:Hi (SL W4 4 (.slice (sA D5.heap.size 0) 1 1) 1 [nI (k:Nat),Value.bool tb,Value.slice xo xn xc,Value.slice yo yn yc]):=by rw[d6];exact SL.one D5 76 [nI (k:Nat),Value.bool tb,Value.slice xo xn xc,Value.slice yo yn yc] rfl (by simp[Value.oneCell'])
  rw[<-d6];clear d6 G;have a4:=hid (g0.o.step c1.o);have a5:=hid (za1 f4.o.2.1 c1.o);have d3:Hi (W4.heap[L]?=_):=Ok.row' c1.o c6.o;obtain⟨_,_,a8,_,_,_,d8,c8⟩:=a4.o.cells J.o;obtain⟨b0,b1,b2,b3,b4,b5⟩:=za9 d3.o;have a1:=za2 d3.o;refine Z.out _ _ (λ_=>⟨a8,b0,b1,b2,c8,a1⟩) ?_;clear Z K;refine zb0 (i:=9) kR rfl (λK Z=>?_);refine zn6 rfl _ _ 34 76 4 64 _ rfl Tryz.underlying34 wm7 (by rfl) dC dC F.B (.slice vo vn vc) vn (vxL vs tl) (by rfl) a5.o (.slice (sA D5.heap.size 0) 1 1) 1 [nI (k:Nat),Value.bool tb,Value.slice xo xn xc,Value.slice yo yn yc] (by rfl) i7.o dC (oK HO.o.2.2 b9.o) a4.o.le ?_;intro v9 w9 k1 k2 k3;have j3:=hid k3;clear k3;have j4:=hid k1;have f5:=hid k2;obtain⟨i1,h6,rfl⟩:=za0 k1;have g2:Hi (w9.heap[F.gf]?=some (.cells (F.row (.slice vo vn vc) lv) 67 (0,0))):=(k2.block F.gf c8 (λe=>zf4 a5.o J.o.fB e.symm)).trans a4.o.row;have g6:Hi (w9.heap[L]?=_):=(k2.block L a1 (λe=>zb6 a5.o d3.o dC e.symm)).trans d3.o;clear k1 k2 a8 d8 c8 b0 b1 b2 b3 b4 b5 a1;have a8:w9.cell? (aD F.gf 19)=some (.slice vo vn vc):=(cell_of_row _ _ 19 _ _ _ g2.o).trans rfl;have d8:w9.frozen? (aD F.gf 19)=false:=frozen_of_row _ _ _ _ _ g2.o;have c7:=za2 g2.o;obtain⟨b0,b1,b2,b3,b4,b5⟩:=za9 g6.o;have a1:=za2 g6.o;refine Z.out _ _ (λ_=>⟨a8,b0,b1,b2,c7,a1⟩) ?_;clear Z K;simp only[pu];refine zb0 (i:=10) kR rfl (λK Z=>?_);go_simp;refine Z.out _ _ (λ_=>⟨a8,b0,b1,b2,c7,a1⟩) ?_;clear Z K;refine zb0 (i:=11) kR rfl (λK Z=>?_);go_simp;refine Z.out _ _ (λ_=>⟨a8,b0,b1,b2,c7,a1⟩) ?_;clear Z K;refine zb0 (i:=12) kR rfl (λK Z=>?_);go_simp;refine Z.out _ _ (λh=>absurd rfl h) ?_;clear Z K;refine zd4 kR ?_ _;have i4:Hi (W4.ownsRow F.B 76 4 (.slice vo vn vc) vs.length (vxL vs tl)):=by have h:=a5.o;unfold Hi;rw[<-b9.o];exact h
  have j2:=hid (a4.o.push J.o (v:=((k:Int),t')) (x:=(.slice xo xn xc,.slice yo yn yc)) f4.o.1 i4.o (λi v x h1 h2=>(f4.o.2.2 i v x h1 h2).ok c1.o) (i9.o.ok c1.o) (by have h1:=j4.o;rw[c5.o.1]at h1;rw[<-b9.o];exact h1) f5.o)
  have j0:Hi (VK F.F w (.slice vo vn vc) (w9.setCell (aD F.gf 19) (.slice i1 (vn+1) h6)) (.slice i1 (vn+1) h6)):=by
   have d7:VK F.F w (.slice vo vn vc) W4 (.slice vo vn vc):=j1.o.trans (VK.ok c1.o);refine⟨by have h1:=d7.size;have h2:=f5.o.size;simp;omega,λb o h0 h1 h2 h3 h4=>zk3 ((f5.o.block b (za2 (d7.far b o h0 h1 h2 h3 h4)) (λe=>h4 e.symm)).trans (d7.far b o h0 h1 h2 h3 h4)) (p:=⟨F.gf,19,none⟩) h1 _,λb e=>?_⟩;rcases j3.o with h5 | h5
   ·exact .inl (h5 ▸ e)
   rw[e]at h5;exact .inr (oK (aI h5) d7.size)
  have HV:Hi (p.vert vs (k:Int) t=some (vs++[((k:Int),t')],vn)):=by unfold Hi Pl.vert;rw[<-d0.o,HL.o];show(if many vs (k:Int)=p.cap then Option.none else _)=_;rw[<-HC.o,aC i8.o,b9.o]
  go_wp2_with fail;(try simp only[Exit.inBlock,Exit.then]);refine bodyPost_ret (results_tmp2 rfl _ _ _) rfl ?_;unfold wj6;rw[HV.o];exact⟨rfl,_,j2.o,HJ.o.add c5.o.2.1 c5.o.2.2 (zo5 HJ.o.vi HD.o HV.o).1,j0.o⟩
end Go.Proofs.YthoegkcpmgalbaaGreatDoor
