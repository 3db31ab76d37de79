import Derived.Shelf.Strconv.Clone
import Derived.Shelf.Strconv.AppendIntPublic10
import Derived.Test.YthoegkcpmgalbaaGreatDoorProg
import Derived.Lib.ItoaLen
import Derived.Test.YthoegkcpmgalbaaGreatDoorKGe
set_option maxHeartbeats 8000000
set_option linter.all false
set_option maxRecDepth 100000
namespace Go.Proofs.YthoegkcpmgalbaaGreatDoor
open Go.Shelf Go.RowKit
variable{B i k:Nat}{H U n:Int}{W w' wr:World}{e:Ed}{f:Tok->Tok}{h:List Int}{l r:List UInt8}{t:Tok}{v:Value}
def Tryz.laysM176_ren:Go.Shelf.Ren:=⟨fun | 176=>164 | 249=>176 | 288=>187 | 283=>151 | 284=>152 | 285=>153 | 286=>154 | 129=>166 | 317=>165 | 318=>167 | 319=>168 | 320=>169 | 337=>177 | 338=>178 | n=>n,fun | 37=>245 | 2=>2 | 3=>3 | 53=>242 | 4=>4 | 9=>9 | 171=>241 | 0=>0 | 173=>246 | 212=>256 | 51=>257 | 5=>5 | 20=>20 | 213=>258 | 46=>259 | 232=>282 | 233=>283 | n=>n,fun | 17=>4 | 18=>6 | 19=>7 | n=>n⟩
def Tryz.laysM176:Go.Proofs.LaysM.n176 Tryz.prog Tryz.laysM176_ren:={
 mixed:=by kernel_rfl
 f129:=Tryz.func166.trans (cA some kR)
 f176:=Tryz.func164.trans (cA some kR)
 f249:=Tryz.func176.trans (cA some kR)
 f283:=Tryz.func151.trans (cA some kR)
 f284:=Tryz.func152.trans (cA some kR)
 f285:=Tryz.func153.trans (cA some kR)
 f286:=Tryz.func154.trans (cA some kR)
 f288:=Tryz.func187.trans (cA some kR)
 f317:=Tryz.func165.trans (cA some kR)
 f318:=Tryz.func167.trans (cA some kR)
 f319:=Tryz.func168.trans (cA some kR)
 f320:=Tryz.func169.trans (cA some kR)
 f337:=Tryz.func177.trans (cA some kR)
 f338:=Tryz.func178.trans (cA some kR)
 t0:=Tryz.underlying0
 a0:=Tryz.isAgg0
 z0:=Tryz.sizeOf0
 v0:=Tryz.zeroValue0
 t2:=Tryz.underlying2
 a2:=Tryz.isAgg2
 z2:=Tryz.sizeOf2
 v2:=Tryz.zeroValue2
 t3:=Tryz.underlying3
 a3:=Tryz.isAgg3
 z3:=Tryz.sizeOf3
 v3:=Tryz.zeroValue3
 t4:=Tryz.underlying4
 a4:=Tryz.isAgg4
 z4:=Tryz.sizeOf4
 v4:=Tryz.zeroValue4
 t5:=Tryz.underlying5
 a5:=Tryz.isAgg5
 z5:=Tryz.sizeOf5
 v5:=Tryz.zeroValue5
 t9:=Tryz.underlying9
 a9:=Tryz.isAgg9
 z9:=Tryz.sizeOf9
 v9:=Tryz.zeroValue9
 t20:=Tryz.underlying20
 a20:=Tryz.isAgg20
 z20:=Tryz.sizeOf20
 v20:=Tryz.zeroValue20
 t37:=Tryz.underlying245
 a37:=Tryz.isAgg245
 z37:=Tryz.sizeOf245
 v37:=Tryz.zeroValue245
 t46:=Tryz.underlying259
 a46:=Tryz.isAgg259
 z46:=Tryz.sizeOf259
 v46:=Tryz.zeroValue259
 t51:=Tryz.underlying257
 a51:=Tryz.isAgg257
 z51:=Tryz.sizeOf257
 v51:=Tryz.zeroValue257
 t53:=Tryz.underlying242
 a53:=Tryz.isAgg242
 z53:=Tryz.sizeOf242
 v53:=Tryz.zeroValue242
 t171:=Tryz.underlying241
 a171:=Tryz.isAgg241
 z171:=Tryz.sizeOf241
 v171:=Tryz.zeroValue241
 t173:=Tryz.underlying246
 a173:=Tryz.isAgg246
 z173:=Tryz.sizeOf246
 v173:=Tryz.zeroValue246
 t212:=Tryz.underlying256
 a212:=Tryz.isAgg256
 z212:=Tryz.sizeOf256
 v212:=Tryz.zeroValue256
 t213:=Tryz.underlying258
 a213:=Tryz.isAgg258
 z213:=Tryz.sizeOf258
 t232:=Tryz.underlying282
 a232:=Tryz.isAgg282
 z232:=Tryz.sizeOf282
 v232:=Tryz.zeroValue282
 t233:=Tryz.underlying283
 a233:=Tryz.isAgg283
 z233:=Tryz.sizeOf283
 v233:=Tryz.zeroValue283
 g17:=by kernel_rfl
 g18:=by kernel_rfl
 g19:=by kernel_rfl
 i0:=by kernel_rfl
 i2:=by kernel_rfl
 i3:=by kernel_rfl
 i4:=by kernel_rfl
 i5:=by kernel_rfl
 i9:=by kernel_rfl
 i20:=by kernel_rfl
 i37:=by kernel_rfl
 i46:=by kernel_rfl
 i51:=by kernel_rfl
 i53:=by kernel_rfl
 i171:=by kernel_rfl
 i173:=by kernel_rfl
 i212:=by kernel_rfl
 i232:=by kernel_rfl
 i233:=by kernel_rfl
 m17:=by kernel_rfl
 m18:=by kernel_rfl
 m19:=by kernel_rfl }
open Go.RowKit Go.Sort Go.Lib in
def Tryz.strconv_AppendInt_10 (B n:Nat) (i:Int) (h0 : -9223372036854775808<=i) (h1:i<=9223372036854775807) (sv:Value) (xs:List Value) (w:World) (hown:w.ownsRow B 5 1 sv n xs) (hBw:B<=w.heap.size) (hlim:n+21<=140737488355328) (htab:Lib.TabBelow Tryz.prog B w "internal/strconv.uint64pow10" .u64 Lib.pow10Tab) :
  Calls Tryz.prog 164 #[sv,nI i,nI 10] w λe w'=>∃v',e=.returned v'/\w'.ownsRow B 5 1 v' (n+(Lib.itoa i).length) (xs++Lib.byteCells (Lib.itoa i))/\Below B w w'/\Lib.OthersKept 5 none w w':=Any.strconv_AppendInt_10 Tryz.laysM176 B n i h0 h1 sv xs w hown hBw hlim htab
def I64(v:Int):Prop := -9223372036854775808<=v/\v<=9223372036854775807
structure TkB(M:Nat)(t:Tok):Prop where
 hl:t.2.1.length<=M
 ll:t.2.2.length<=M
 hi:∀x∈t.2.1,I64 x
 li:∀x∈t.2.2,I64 x.1/\I64 x.2
def txH(n:Int)(h:List Int)(k:Nat):List UInt8:=Lib.itoa n++CV (wdH Lib.itoa (h.take k))
def txL(n:Int)(h:List Int)(l:List (Int×Int))(k:Nat):List UInt8:=txH n h h.length++CV (wdL Lib.itoa (l.take k))
def zR3(n:Int)(h:List Int):txH n h 0=Lib.itoa n:=by simp[txH,wdH,CV]
def zR4{x:Int}(d:h[k]?=some x):txH n h (k+1)=txH n h k++[32,105,102,32]++Lib.itoa x:=by unfold txH;rw[dH,d];simp[wdH,CV,wIf]
def zR5(n:Int)(h:List Int)(l:List (Int×Int)):txL n h l 0=txH n h h.length:=by simp[txL,wdL,CV]
def zR6{l:List (Int×Int)}{x:Int×Int}(d:l[k]?=some x):txL n h l (k+1)=txL n h l k++[32,119,104,105,108,101,32]++Lib.itoa x.1++[32,114,111,117,110,100,32]++Lib.itoa x.2:=by unfold txL;rw[dH,d];simp[wdL,CV,wg2,wk5]
def zL7(hm:t.1=false):txL n t.2.1 t.2.2 t.2.2.length=FL Lib.itoa (n,t):=by unfold txL txH FL wdT;rw[aC (by simp[hm]),cH,cH,zT9,bN]
def yg9(hm:t.1=true):FL Lib.itoa (n,t)=Lib.itoa n++[32,109,101,114,103,101,100]:=by unfold FL wdT;rw[aG hm];simp[CV,wa1]
def zL8(hn:I64 n)(d:∀x∈h,I64 x):∀k,k<=h.length->(txH n h k).length<=21+25*k
 | 0,_=>by rw[zR3];exact Lib.itoa_length_le n hn.1 hn.2
 | k+1,hk=>by have D:h[k]?=some h[k]:=gG_ oM;have G:=zL8 hn d k oM;have o:=d _ (mG_ D);have I:=Lib.itoa_length_le _ o.1 o.2;rw[zR4 D,aA,aA];simp only[aR,cM];omega
def zL9{l:List (Int×Int)}(o:I64 n)(D:∀x∈h,I64 x)(G:∀x∈l,I64 x.1/\I64 x.2):∀k,k<=l.length->(txL n h l k).length<=21+25*h.length+56*k
 | 0,_=>by rw[zR5];exact zL8 o D _ (aK _)
 | k+1,hk=>by have I:l[k]?=some l[k]:=gG_ oM;have K:=zL9 o D G k oM;have d:=G _ (mG_ I);have L:=Lib.itoa_length_le _ d.1.1 d.1.2;have J:=Lib.itoa_length_le _ d.2.1 d.2.2;rw[zR6 I];simp only[aA,aR,cM];omega
def yD9(a b:List UInt8):Lib.byteCells (a++b)=Lib.byteCells a++Lib.byteCells b:=by simp[Lib.byteCells]
def wq4:(Tryz.prog.info? 5).map (λi=>(i.zero,i.size,i.bytes))=some (some (.int .u8 0),1,1):=by kernel_rfl
def Txt(w:World)(B:Nat)(v:Value)(l:List UInt8):Prop:=w.ownsRow B 5 1 v l.length (Lib.byteCells l)
def Txt.more{w:World}{n:Nat}{d:List UInt8}(h:w.ownsRow B 5 1 v (l.length+n) (Lib.byteCells l++Lib.byteCells d))(o:n=d.length):Txt w B v (l++d):=by unfold Txt;rw[aA,yD9,<-o];exact h
def zn7{w:World}{D:Array Oper}{o:Oper}{a:Act}{K:Act->World->Prop}{Q:Exit->Act->World->Prop}{E:Prop}(L:o.guard=none)(s x:Operand)(t u:TypeId)
  (ho:o.op=.call { callee:=.builtin .append,args:=#[s,x],argTypes:=#[t,u] }) (ht:Tryz.prog.underlying t=some (.slice 5)) (hu:Tryz.prog.underlying u=some .string)
  (B:Nat) (G:Value) (l:List UInt8) (hs:a.eval s=G) (d:Txt w B G l) (r:List UInt8) (Z:a.eval x=.string ⟨r.toArray⟩) (hb:l.length+r.length<=140737488355328) (X:B<=w.heap.size)
  (h:∀I w',Txt w' B I (l++r)->w.grownBy w' G.ownBlock->K (a.put o.dst I) w') :
  if Region.wanted o (yielded D a.tmps)=true then Oper.wp Tryz.prog o a w K Q else E:=by
 have Y:Region.wanted o (yielded D a.tmps)=true:=by simp[Region.wanted,L]
 rw[aG Y];obtain⟨i,hi,hz,O,J⟩:=zg6 wq4;have e:(⟨r.toArray⟩:ByteArray).size=r.length:=by simp[ByteArray.size]
 obtain⟨I,w',r1,R,r3,_⟩:=Lib.run_append_own_string (P:=Tryz.prog) w B t u o.type 5 i ht hu hi hz O J G l.length (Lib.byteCells l) d ⟨r.toArray⟩ (by rw[e];unfold maxLen;omega) (by rw[e];exact hb) X;rw[Lib.strCells_toArray,e]at R;unfold Oper.wp execOp;simp only[ho,resolve,invoke,builtin,Sem.run_bind,Sem.run_pure,Result.andThen_ok,fT,dK,eK,hs,Z,r1];exact h I w' (Txt.more R rfl) r3
def zl1{w:World}{G:Array Oper}{d:List Oper}{o:Oper}{a:Act}{Q:Exit->Act->World->Prop}(L:o.guard=none)(s x:Operand)(t u:TypeId)
  (ho:o.op=.call { callee:=.builtin .append,args:=#[s,x],argTypes:=#[t,u] }) (ht:Tryz.prog.underlying t=some (.slice 5)) (hu:Tryz.prog.underlying u=some .string)
  (B:Nat) (I:Value) (l:List UInt8) (hs:a.eval s=I) (D:Txt w B I l) (r:List UInt8) (Y:a.eval x=.string ⟨r.toArray⟩) (hb:l.length+r.length<=140737488355328) (X:B<=w.heap.size)
  (h:∀J w',Txt w' B J (l++r)->w.grownBy w' I.ownBlock->wpList Tryz.prog G Q d (a.put o.dst J) w'):wpList Tryz.prog G Q (o::d) a w:=by
 obtain⟨i,Z,hz,O,K⟩:=zg6 wq4;have e:(⟨r.toArray⟩:ByteArray).size=r.length:=by simp[ByteArray.size]
 refine Lib.wpList_append_own_string w L s x t u ho B 5 i ht hu Z hz O K I l.length (Lib.byteCells l) hs D ⟨r.toArray⟩ Y (by rw[e];unfold maxLen;omega) (by rw[e];exact hb) X ?_;intro J w' R k2 _;rw[Lib.strCells_toArray,e]at R;exact h J w' (Txt.more R rfl) k2
def zn2{w:World}(h:Txt w B v l)(i:Int)(o:I64 i)(G:B<=w.heap.size)(I:l.length+21<=140737488355328)(O:Lib.TabBelow Tryz.prog B w "internal/strconv.uint64pow10" .u64 Lib.pow10Tab) :
  Calls Tryz.prog 164 #[v,nI i,nI 10] w λe w'=>∃d,e=.returned d/\Txt w' B d (l++Lib.itoa i)/\Below B w w'/\Lib.OthersKept 5 none w w' :=
 (Tryz.strconv_AppendInt_10 B l.length i o.1 o.2 v _ w h G I O).mono λe w' ⟨d,K,J,L,D⟩=>⟨d,K,Txt.more J rfl,L,D⟩
def Txt.others{w:World}(h:Txt w B v l)(I:w.grownBy w' v.ownBlock):Lib.OthersKept 5 none w w':=λk o d _ K =>
 (I.block k (za2 d) λe=>by
  rcases h.2 with ⟨rfl,_⟩ | ⟨g,cap,G,rfl,_,D,_⟩
  ·cases e
  have J:k=g:=aI e;subst J;rw[D]at d
  injection d with d
  exact K _ _ d.symm).trans d
def zn3{w:World}(h:Lib.OthersKept 5 none w w'){g:Nat}{cs:Array Value}{t:TypeId}{d:Nat×Nat}(D:w.heap[g]?=some (.cells cs t d))(o:t≠5):w'.heap[g]?=some (.cells cs t d):=h g _ D sI λc f e=>by injection e with _ e2;exact o e2
def Txt.conv{w:World}(h:Txt w B v l)(G:0<l.length):(convert 245 9 v).run Tryz.prog w=.ok (.string ⟨l.toArray⟩) w:=by
 rcases h.2 with ⟨_,D⟩ | ⟨g,cap,d,rfl,_⟩
 ·omega
 exact run_convert_bytes_back (P:=Tryz.prog) w 245 9 5 ⟨g,0,none⟩ cap l Tryz.underlying245 Tryz.underlying5 Tryz.underlying9 (λj o=>World.ownsRow.cells h (g:=g) rfl j _ (by simp[Lib.byteCells,o]))
def yA8(n:Int)(h:List Int)(k:Nat):0<(txH n h k).length:=by unfold txH;have d:=zz7.ne n;have o:0<(Lib.itoa n).length:=iP.2 d;rw[aA];omega
def SL.at{w:World}{s:Nat}{n:Nat}{D:List Value}(h:SL w s v n D)(I:0<s)(J:k<n):∃b o cap,v=.slice (sA b o) n cap/\b<w.heap.size/\∀j u,D[j]?=some u->w.cell? ⟨b,o+j,none⟩=some u:=by
 obtain⟨_,_,G,cap,rfl,d⟩:=h;rcases d with d | ⟨b,o,rfl,hl,hc⟩
 ·omega
 exact⟨b,o,cap,rfl,hl,hc⟩
def zk6{l:List Int}{x:Int}(h:l[k]?=some x):(ilL l)[k]?=some (nI x):=by unfold ilL;rw[aX,h];rfl
structure TxI(W wr:World)(v:Value)(l:List UInt8):Prop where
 ok:Ok W wr
 own:Txt wr W.heap.size v l
def TxI.as(h:TxI W wr v l)(e:l=r):TxI W wr v r:=by rw[<-e];exact h
def TxI.alloc(h:TxI W wr v l)(o:Obj):TxI W (wr.alloc o) v l:=⟨h.ok.alloc o,World.ownsRow.alloc h.own o⟩
def TxI.drew(h:TxI W wr v l):TxI W wr.drew v l:=⟨Below.drew h.ok,h.own⟩
def TxI.str{v':Value}(h:TxI W wr v l)(d:Txt w' W.heap.size v' (l++r))(o:wr.grownBy w' v.ownBlock):TxI W w' v' (l++r):=⟨h.ok.grown o (λb e=>(World.ownsRow.lt h.own b e).1),d⟩
def TxI.num{v':Value}(h:TxI W wr v l)(d:Txt w' W.heap.size v' r)(o:Below W.heap.size wr w'):TxI W w' v' r:=⟨Below.trans h.ok o,d⟩
def zW4(n:Int)(hv lv:Value)(t:Tok)(w:World)(I:I64 n)(D:EA w hv lv t)(J:TkB 100000 t)(K:Lib.TabBelow Tryz.prog w.heap.size w "internal/strconv.uint64pow10" .u64 Lib.pow10Tab) :
  Calls Tryz.prog 146 #[nI n,.agg #[.bool t.1,hv,lv]] w λe w'=>e=.returned (.string ⟨(FL Lib.itoa (n,t)).toArray⟩)/\Ok w w':=by
 have HT:=hid D;have HB:=hid J;have HN:=hid I;have a3:Hi (∀ Y B,Ok w Y->w.heap.size<=B->Lib.TabBelow Tryz.prog B Y "internal/strconv.uint64pow10" .u64 Lib.pow10Tab):=fun Y B hY hB w' c8=>K w' (Below.trans hY (c8.mono hB));obtain ⟨_,_,ho,hc,rfl,_⟩:=D.hist;obtain ⟨_,_,lo,lc,rfl,_⟩:=D.loops;obtain ⟨m,o⟩:=qq (t.1);obtain ⟨q,G⟩:=qq (t.2.1.length);obtain ⟨c,d⟩:=qq (t.2.2.length);have L:Hi (m=t.1/\q=t.2.1.length/\c=t.2.2.length):=⟨o,G,d⟩;rw [<-G,<-d] at HT;rw [<-o,<-G,<-d];clear D J I K o G d;go_enter Tryz.func146,Tryz.ntmps146;go_wp2_with fail;obtain ⟨W,o⟩:=qq (w.alloc (Obj.cells #[.bool m,.slice ho q hc,.slice lo c lc] 74));obtain ⟨gb,d⟩:=qq (w.heap.size);rw [<-o,<-d];have HK:Hi (Ok w W):=by rw [o];exact (Ok.refl w).alloc _
 have HP:Hi (W.heap[gb]?=some (.cells #[Value.bool m,Value.slice ho q hc,Value.slice lo c lc] 74 (0,0))):=by rw[o,d];exact jj
 have HS:=hid HK.o.le;clear o d;have d:Txt W W.heap.size (sZ) []:=World.ownsRow_nil _ _ _ _;refine(zn2 d n HN.o (nR_ _) sI (a3.o W _ HK.o HS.o)).mono ?_;rintro e w1 ⟨v1,rfl,R,h2,_⟩;have HI:Hi (TxI W w1 v1 (Lib.itoa n)):=⟨h2,R⟩;clear d R h2;have I:Hi _:=Ok.row' HI.o.ok HP.o;obtain⟨c0,c1,c2,c3,c4,c5⟩:=za9 I.o;have Z:=za2 I.o;obtain⟨vo,vc,rfl⟩:=za0 HI.o.own
 cases m with
 | true =>
  go_wp2_with (first|(at_builtin;refine zl1 rfl _ _ 245 9 rfl Tryz.underlying245 Tryz.underlying9 W.heap.size _ (Lib.itoa n) (by rfl) HI.o.own [32,109,101,114,103,101,100] (by rfl) (by have:=Lib.itoa_length_le n HN.o.1 HN.o.2;simp;omega) HI.o.ok.le ?_;intro v2 w2 J G;have d:Hi _:=HI.o.str J G;clear J G;have b9:=d.o.own.conv (by simp))|fail)
  go_ret;rw[yg9 L.o.1.symm];exact⟨rfl,HK.o.step d.o.ok⟩
 | false =>
  have b5:Hi (∀k,k<=q->(txH n t.2.1 k).length<=3000000):=λk X=>by have R:=zL8 (h:=t.2.1) HN.o HB.o.hi k (by rw[<-L.o.2.1];exact X);have h2:=HB.o.hl;have h3:=L.o.2.1;omega
  have a6:Hi (∀k,k<=c->(txL n t.2.1 t.2.2 k).length<=9000000):=λk X=>by have R:=zL9 (h:=t.2.1) (l:=t.2.2) HN.o HB.o.hi HB.o.li k (by rw[<-L.o.2.2];exact X);have h2:=HB.o.hl;have d:=HB.o.ll;have h3:=L.o.2.2;omega
  go_wp2_with fail;go_loopw [5,20] (λt5 a8 wr=>∃(k:Nat),a8=nI (k:Nat)/\k<=q/\Hi (TxI W wr t5 (txH n t.2.1 k))) (λ_ a8 _=>((q:Int)-intOf a8).toNat)
  case atStart=>exact⟨0,rfl,dQ _,by rw[zR3];exact HI.o⟩
  clear c0 c1 c2 c3 c4 c5 Z I;obtain⟨k,rfl,X,O⟩:=hrel;have I:Hi _:=Ok.row' O.o.ok HP.o;obtain⟨c0,c1,c2,c3,c4,c5⟩:=za9 I.o;have Z:=za2 I.o;by_cases d:k<q
  ·obtain⟨x,hx⟩:∃x,t.2.1[k]?=some x:=⟨_,aJ (by rw[<-L.o.2.1];exact d)⟩
   obtain⟨b,o,cp,e1,e2,e3⟩:=HT.o.hist.at (by decide) (k:=k) (by rw[<-L.o.2.1];exact d)
   injection e1 with e4 e6 e5
   clear e6;subst e4 e5;have r0:wr.cell? ⟨b,o+k,none⟩=some (nI x):=(HK.o.step O.o.ok).cell (p:=⟨b,o+k,none⟩) e2 (e3 _ _ (zk6 hx));have HX:=hid hx;have D:Hi (I64 x):=HB.o.hi _ (mG_ hx);have a4:(k:Int)<(q:Int):=za5 d;have kw:IntKind.i64.wrap ((k:Int)+1)=((k+1:Nat):Int):=zb3 (by have R:=HB.o.hl;have h2:=L.o.2.1;omega);clear e2 e3 hx
   go_wp2_with (first|(at_builtin;refine zl1 rfl _ _ 245 9 rfl Tryz.underlying245 Tryz.underlying9 W.heap.size _ (txH n t.2.1 k) (by rfl) O.o.own [32,105,102,32] (by rfl) (by have R:=b5.o k X;simp;omega) O.o.ok.le ?_;intro v2 w2 J G;have K:Hi _:=O.o.str J G;clear J G) | (go_at_call 164;refine(zn2 K.o.own x D.o K.o.ok.le (by have R:=b5.o k X;simp;omega) (a3.o _ _ (HK.o.step K.o.ok) HS.o)).mono ?_;rintro e w3 ⟨v3,rfl,J,G,_⟩;have b0:Hi _:=K.o.num J G;clear J G)|fail)
   go_roundw
   case rel=>exact⟨k+1,rfl,d,by rw[zR4 HX.o];exact b0.o⟩
   case measure=>exact we3 d
  have a4:¬(k:Int)<(q:Int):=zb2 d;have HE:Hi _:=O.o.as (show txH n t.2.1 k=txL n t.2.1 t.2.2 0 by rw[zR5,<-L.o.2.1,show q=k by omega]);go_wp2_with fail;obtain⟨W3,c7⟩:=qq (wr);subst c7;go_loopw [5,32] (λt5 a7 wr=>∃(k:Nat),a7=nI (k:Nat)/\k<=c/\Hi (TxI W wr t5 (txL n t.2.1 t.2.2 k))) (λ_ a7 _=>((c:Int)-intOf a7).toNat)
  case atStart=>exact⟨0,rfl,zL_ _,HE⟩
  clear c0 c1 c2 c3 c4 c5 Z I HE a4 d O X;obtain⟨k,rfl,X,O⟩:=hrel;have I:Hi _:=Ok.row' O.o.ok HP.o;obtain⟨c0,c1,c2,c3,c4,c5⟩:=za9 I.o;have Z:=za2 I.o;by_cases d:k<c
  ·obtain⟨x,hx⟩:∃x,t.2.2[k]?=some x:=⟨_,aJ (by rw[<-L.o.2.2];exact d)⟩
   obtain⟨b,o,cp,e1,e2,e3⟩:=HT.o.loops.at (by decide) (k:=k) (by rw[<-L.o.2.2];exact d)
   injection e1 with e4 e6 e5
   clear e6;subst e4 e5;have r0:wr.cell? ⟨b,o+k*2,none⟩=some (nI x.1):=(HK.o.step O.o.ok).cell (p:=⟨b,o+k*2,none⟩) e2 (e3 _ _ (zi1 _ _ _ hx).1);have r1:wr.cell? ⟨b,o+k*2+1,none⟩=some (nI x.2):=(HK.o.step O.o.ok).cell (p:=⟨b,o+k*2+1,none⟩) e2 (e3 (k*2+1) _ (zi1 _ _ _ hx).2);have HX:=hid hx;have D:Hi (I64 x.1/\I64 x.2):=HB.o.li _ (mG_ hx);have a4:(k:Int)<(c:Int):=za5 d;have kw:IntKind.i64.wrap ((k:Int)+1)=((k+1:Nat):Int):=zb3 (by have R:=HB.o.ll;have h2:=L.o.2.2;omega);clear e2 e3 hx
   go_upto_region 12 with (fail)
   obtain⟨Y,hY⟩:=qq (wr.alloc (Obj.cells #[nI x.1,nI x.2] 117));obtain⟨g9,a9⟩:=qq (wr.heap.size);rw[<-hY,<-a9];have HY:Hi (Y.heap[g9]?=some (.cells #[nI x.1,nI x.2] 117 (0,0))):=by rw[hY,a9];exact jj
   have b2:Hi _:=O.o.alloc (Obj.cells #[nI x.1,nI x.2] 117);rw[<-hY]at b2;clear hY a9 c0 c1 c2 c3 c4 c5 Z r0 r1;obtain⟨d0,d1,d2,d3⟩:=zd1 HY.o;have a1:Hi _:=b2.o.drew;have b7:=hid HY.o
   go_region_held3 (λw'=>w'.cell? (aD g9 0)=some (nI x.1)) (go_keep) (first|(refine zn7 (by rfl) _ _ 245 9 (by rfl) Tryz.underlying245 Tryz.underlying9 W.heap.size _ (txL n t.2.1 t.2.2 k) (by rfl) a1.o.own [32,119,104,105,108,101,32] (by rfl) (by have R:=a6.o k X;have h2:=Lib.itoa_length_le _ D.o.1.1 D.o.1.2;simp;omega) a1.o.ok.le ?_;intro v2 w2 J G;have K:Hi _:=a1.o.str J G;have b6:Hi _:=zn3 (a1.o.own.others G) b7.o (by decide);clear J G d0 d1 d2 d3;obtain⟨d0,d1,d2,d3⟩:=zd1 b6.o) | (go_at_call 164;refine(zn2 K.o.own x.1 D.o.1 K.o.ok.le (by have R:=a6.o k X;have h2:=Lib.itoa_length_le _ D.o.1.1 D.o.1.2;simp;omega) (a3.o _ _ (HK.o.step K.o.ok) HS.o)).mono ?_;rintro e w3 ⟨v3,rfl,J,G,k3⟩;have b0:Hi _:=K.o.num J G;have b3:Hi _:=zn3 k3 b6.o (by decide);clear J G k3 d0 d1 d2 d3;obtain⟨d0,d1,d2,d3⟩:=zd1 b3.o)|fail)
   go_upto_region 13 with (fail)
   have a5:Hi _:=b0.o.drew;have b1:=hid b3.o
   go_region_held3 (λw'=>w'.cell? (aD g9 1)=some (nI x.2)) (go_keep) (first|(refine zn7 (by rfl) _ _ 245 9 (by rfl) Tryz.underlying245 Tryz.underlying9 W.heap.size _ ((txL n t.2.1 t.2.2 k++[32,119,104,105,108,101,32])++Lib.itoa x.1) (by rfl) a5.o.own [32,114,111,117,110,100,32] (by rfl) (by have R:=a6.o k X;have h2:=Lib.itoa_length_le _ D.o.1.1 D.o.1.2;simp;omega) a5.o.ok.le ?_;intro v4 w4 J G;have a2:Hi _:=a5.o.str J G;have b4:Hi _:=zn3 (a5.o.own.others G) b1.o (by decide);clear J G d0 d1 d2 d3;obtain⟨d0,d1,d2,d3⟩:=zd1 b4.o) | (go_at_call 164;refine(zn2 a2.o.own x.2 D.o.2 a2.o.ok.le (by have R:=a6.o k X;have h2:=Lib.itoa_length_le _ D.o.1.1 D.o.1.2;simp;omega) (a3.o _ _ (HK.o.step a2.o.ok) HS.o)).mono ?_;rintro e w5 ⟨v5,rfl,J,G,k3⟩;have c6:Hi _:=a2.o.num J G;have b8:Hi _:=zn3 k3 b4.o (by decide);clear J G k3 d0 d1 d2 d3;obtain⟨d0,d1,d2,d3⟩:=zd1 b8.o)|fail)
   go_wp2_with fail;go_roundw
   case rel=>exact⟨k+1,rfl,d,by rw[zR6 HX.o];exact c6.o⟩
   case measure=>exact we3 d
  have a4:¬(k:Int)<(c:Int):=zb2 d;have HE:Hi _:=O.o.as (show txL n t.2.1 t.2.2 k=FL Lib.itoa (n,t) by rw[<-zL7 L.o.1.symm,<-L.o.2.2,show c=k by omega]);have b9:=HE.o.own.conv (by rw[<-zL7 L.o.1.symm];unfold txL;rw[aA];have:=yA8 n t.2.1 t.2.1.length;omega);go_wp2_with fail;go_ret;exact⟨rfl,HK.o.step HE.o.ok⟩
def zj5(H U:Int)(e:Ed)(i:Nat)(t:Tok):(AM H U e i t).1=t.1:=by
 unfold AM
 split
 ·rename_i h;rw[h];rfl
 rename_i h
 have d:t.1=false:=by simpa using h
 rw[d]
 repeat' split
 all_goals rfl
def zQ0(h:e.op≠5)(t:Tok):AM H U e i t=cpT t:=by
 obtain⟨b,x,y⟩:=t
 cases b<;>simp[AM,cpT,h]
def zF5(h:e.op=5)(d:e.loop=false)(t:Tok):AM H U e i t=wg3 H i t:=by
 obtain⟨b,x,y⟩:=t
 cases b<;>simp[AM,wg3,h,d]
def zF6(h:e.op=5)(D:e.loop=true)(o:e.sense=false)(t:Tok):AM H U e i t=wh2 e.from' t:=by
 obtain⟨b,x,y⟩:=t;cases b
 ·simp only[AM,wh2,cpT,h,D,o]
  by_cases d:ET (false,x,y) e.from'=true
  ·simp[d]
  simp[d]
 simp only[AM,wh2,cpT];by_cases d:ET (true,x,y) e.from'=true
 ·simp[d]
 simp[d]
def zF7(h:e.op=5)(o:e.loop=true)(D:e.sense=true)(d:0<U)(t:Tok):AM H U e i t=wg4 e.from' U t:=by
 obtain⟨b,x,y⟩:=t
 cases b<;>simp[AM,wg4,h,o,D,d]
def zQ1(h:e.op=5)(o:e.loop=true)(D:e.sense=true)(d:¬0<U)(t:Tok):AM H U e i t=cpT t:=by
 obtain⟨b,x,y⟩:=t
 cases b<;>simp[AM,cpT,h,o,D,d]
structure TkW(t:Tok):Prop where
 hz:t.2.1.length*8+8<=140737488355328
 lz:t.2.2.length*16+16<=140737488355328
 hi:∀x∈t.2.1,I64 x
 li:∀x∈t.2.2,I64 x.1/\I64 x.2
def FH(w:World)(v:Value)(f:Tok->Tok):Prop:=∃(fid:Nat) (caps:Array Value),v=.func (.func fid) #[] caps/\(∀(args:Array Value) (Y:World),(callFunc fid args).run Tryz.prog Y=.ok (.enter fid args) Y) /\
 ∀(Y:World) (hv lv:Value) (t:Tok),Ok w Y->EA Y hv lv t->TkW t->Calls Tryz.prog fid (#[.agg #[.bool t.1,hv,lv]]++caps) Y λe w'=>∃hv' lv',e=.returned (.agg #[.bool (f t).1,hv',lv'])/\AD w' Y.heap.size hv' lv' (f t)/\Ok Y w'
def FH.ok{w:World}(h:FH w v f)(O:Ok w w'):FH w' v f:=by obtain⟨o,d,J,I,L⟩:=h;exact⟨o,d,J,I,λY K G t D=>L Y K G t (O.step D)⟩
def FH.of{w:World}{o:Nat}{d:Array Value}{g:Tok->Tok}(K:∀(args:Array Value) (Y:World),(callFunc o args).run Tryz.prog Y=.ok (.enter o args) Y)(X:∀t,(f t).1=t.1)(O:∀t,f t=g t)
  (h:∀(Y:World) (J I:Value) (t:Tok),Ok w Y->EA Y J I t->TkW t->Calls Tryz.prog o (#[.agg #[.bool t.1,J,I]]++d) Y λe w'=>∃G D,e=.returned (.agg #[.bool t.1,G,D])/\AD w' Y.heap.size G D (g t)/\Ok Y w'):FH w (.func (.func o) #[] d) f :=
 ⟨o,d,rfl,K,λY J I t R Z L=>by rw[X t,O t];exact h Y J I t R Z L⟩
def TkW.sz(h:TkW t):t.2.1.length*8+8<=140737488355328/\t.2.2.length*16+16<=140737488355328:=⟨h.hz,h.lz⟩
def TkB.w(h:TkB 100000 t):TkW t:=⟨oH h.hl,oH h.ll,h.hi,h.li⟩
def zJ9(w:World)(G:∀t,(f t).1=t.1)(o:∀t,f t=cpT t):FH w (.func (.func 102) #[] #[]) f :=
 FH.of (λargs Y=>by kernel_rfl) G o λY J D t K I d=>zi2 J D t Y I (oH d.sz)
def zQ2{w:World}{o d:Nat}{i:Int}(K:w.cell? (aD o 0)=some (nI H))(L:w.cell? (aD d 0)=some (nI i))(I:o<w.heap.size)(G:d<w.heap.size)(X:∀t,(f t).1=t.1)(O:∀t,f t=wg3 H i t):FH w (.func (.func 142) #[] #[pA o 0,pA d 0]) f :=
 FH.of (λargs Y=>by kernel_rfl) X O λY hv R t D Z J=>zA0 hv R t o d H i Y Z (oH J.sz) (D.cell (p:=⟨o,0,none⟩) I K) (D.cell (p:=⟨d,0,none⟩) G L) (lL_ I D.le) (lL_ G D.le)
def zQ3{w:World}{d:Nat}{h:Int}(I:w.cell? (aD d 0)=some (nI h))(D:d<w.heap.size)(L:∀t,(f t).1=t.1)(J:∀t,f t=wh2 h t):FH w (.func (.func 143) #[] #[pA d 0]) f :=
 FH.of (λargs Y=>by kernel_rfl) L J λY R K t o O G=>zU1 R K t d h Y O (oH G.sz) (o.cell (p:=⟨d,0,none⟩) D I) (lL_ D o.le)
def zQ4{w:World}{o d:Nat}{h:Int}(K:w.cell? (aD o 0)=some (nI h))(L:w.cell? (aD d 0)=some (nI U))(J:o<w.heap.size)(I:d<w.heap.size)(R:0<U/\U<=1000)(hf:∀t,(f t).1=t.1)(O:∀t,f t=wg4 h U t):FH w (.func (.func 145) #[] #[pA o 0,pA d 0]) f :=
 FH.of (λargs Y=>by kernel_rfl) hf O λY hv X t D ht G=>zF4 hv X t o d U h Y ht (oH G.sz) (D.cell (p:=⟨o,0,none⟩) J K) (D.cell (p:=⟨d,0,none⟩) I L) (lL_ J D.le) (lL_ I D.le) R (λx Z=>(G.li x Z).2.1)
def SL.place{w:World}{s n:Nat}{o:Option Addr}{c:Nat}{D:List Value}(h:SL w s (.slice o n c) n D)(K:0<n):∃b d,o=some ⟨b,d,none⟩/\b<w.heap.size/\∀(j:Nat) (u:Value),D[j]?=some u->w.cell? ⟨b,d+j,none⟩=some u:=by
 obtain⟨_,_,G,J,e,I⟩:=h
 injection e with e1 _ _
 subst e1;exact I.resolve_left oM
def zM0(a b:Value)(l:List Int)(w:World)(R:SL w 1 a l.length (ilL l))(K:SL w 1 b l.length (ilL l))(D:l.length<=4000000000000000000) :
  Calls Tryz.prog 20 #[a,b] w λe w'=>e=.returned (.bool true)/\Ok w w':=by
 have J:=hid R;have O:=hid K;obtain⟨_,_,ao,ac,rfl,_⟩:=R;obtain⟨_,_,bo,bc,rfl,_⟩:=K;obtain⟨n,d⟩:=qq (l.length);have Y:Hi (n=l.length/\n<=4000000000000000000):=⟨d,oM⟩;rw[<-d]at J O ⊢;clear d D;go_enter Tryz.func20,Tryz.ntmps20;go_wp2_with fail;go_loopw [5] (λt wr=>∃k:Nat,t=nI (k:Nat)/\k<=n/\Hi (Ok w wr)) (λt _=>n-(intOf t).toNat)
 case atStart=>exact⟨0,rfl,zL_ _,Ok.refl _⟩
 obtain⟨k,rfl,hk,G⟩:=hrel;by_cases D:k<n
 ·have d:(k:Int)<(n:Int):=za5 D
  have Z:IntKind.i64.wrap ((k:Int)+1)=((k+1:Nat):Int):=by rw[IntKind.wrap_i64];have:=Y.o;omega
  obtain⟨y,I⟩:∃y,l[k]?=some y:=⟨_,gG_ (oH Y.o)⟩;obtain⟨b1,f1,rfl,q1,X⟩:=(J.o.below G.o).place oM;obtain⟨b2,f2,rfl,q2,L⟩:=(O.o.below G.o).place oM;have d1:=X k (nI y) (zk6 I);have d2:=L k (nI y) (zk6 I);clear X L I;go_wp2_with fail;go_quiet (fail);go_wp2_with fail;refine⟨⟨k+1,rfl,D,below_drewN G.o _⟩,?_⟩;simp only[intOf,aO];omega
 have d:¬(k:Int)<(n:Int):=oM;go_wp2_with fail;go_ret;exact⟨rfl,G.o⟩
def zH2(hv lv hv' lv':Value)(t:Tok)(w:World)(G:EA w hv lv t)(d:EA w hv' lv' t)(L:t.2.1.length<=4000000000000000000/\t.2.2.length<=4000000000000000000) :
  Calls Tryz.prog 21 #[.agg #[.bool t.1,hv,lv],.agg #[.bool t.1,hv',lv']] w λe w'=>e=.returned (.bool true)/\Ok w w':=by
 have H1:=hid G.loops;have H2:=hid d.loops;have HS:Hi (∀Y,Ok w Y->Calls Tryz.prog 20 #[hv,hv'] Y λe w'=>e=.returned (.bool true)/\Ok Y w'):=λY hY=>zM0 hv hv' t.2.1 Y (G.hist.below hY) (d.hist.below hY) L.1;obtain⟨_,_,ho,hc,e1,_⟩:=G.hist;obtain⟨_,_,lo,lc,e2,_⟩:=G.loops;obtain⟨_,_,O,J,e3,_⟩:=d.hist;obtain⟨_,_,R,K,e4,_⟩:=d.loops;obtain⟨m,hs,D⟩:=t;obtain⟨q,X⟩:=qq (hs.length);obtain⟨n,I⟩:=qq (D.length);have HN:Hi (n=D.length/\n<=4000000000000000000):=⟨I,I ▸ L.2⟩;simp only[<-X,<-I]at e1 e2 e3 e4 H1 H2;subst e1 e2 e3 e4;clear I X L G d;go_enter Tryz.func21,Tryz.ntmps21;go_wp2_with fail;obtain⟨W,I⟩:=qq ((w.alloc (Obj.cells #[.bool m,.slice ho q hc,.slice lo n lc] 74)).alloc (Obj.cells #[.bool m,.slice O q J,.slice R n K] 74));obtain⟨gA,G⟩:=qq (w.heap.size);obtain⟨gB,d⟩:=qq (w.heap.size+1);rw[<-I,<-d,<-G];have Z:Hi (Ok w W):=by rw[I];exact((Ok.refl w).alloc _).alloc _
 have L:Hi (W.heap[gA]?=some (.cells #[.bool m,.slice ho q hc,.slice lo n lc] 74 (0,0))):=by rw[I,G];exact jj
 have HB:Hi (W.heap[gB]?=some (.cells #[.bool m,.slice O q J,.slice R n K] 74 (0,0))):=by rw[I,d];exact jj
 clear I G d;refine mq (HS.o W Z.o) λw1 d=>?_;obtain⟨a0,a1,a2,_⟩:=za9 (Ok.row' d L.o);have la:=za2 (Ok.row' d L.o);obtain⟨b0,b1,b2,_⟩:=za9 (Ok.row' d HB.o);have lb:=za2 (Ok.row' d HB.o);have G:=hid (Z.o.step d);have X:Hi (w1.heap[gA]?=_):=Ok.row' d L.o;have I:Hi (w1.heap[gB]?=_):=Ok.row' d HB.o;clear d L HB HS;go_wp2_with fail;clear a0 a1 a2 b0 b1 b2 la lb;go_loopw [5] (λt wr=>∃k:Nat,t=nI (k:Nat)/\k<=n/\Hi (Ok w1 wr)) (λt _=>n-(intOf t).toNat)
 case atStart=>exact⟨0,rfl,zL_ _,Ok.refl _⟩
 obtain⟨k,rfl,hk,d⟩:=hrel;obtain⟨_,_,a2,_⟩:=za9 (Ok.row' d.o X.o);have la:=za2 (Ok.row' d.o X.o);obtain⟨_,_,b2,_⟩:=za9 (Ok.row' d.o I.o);have lb:=za2 (Ok.row' d.o I.o);by_cases a3:k<n
 ·have L:(k:Int)<(n:Int):=za5 a3
  have a4:IntKind.i64.wrap ((k:Int)+1)=((k+1:Nat):Int):=by rw[IntKind.wrap_i64];have:=HN.o;omega
  obtain⟨y,hy⟩:∃y,D[k]?=some y:=⟨_,gG_ (oH HN.o)⟩;obtain⟨p1,f1,rfl,q1,c1⟩:=(H1.o.below (G.o.step d.o)).place oM;obtain⟨p2,f2,rfl,q2,c2⟩:=(H2.o.below (G.o.step d.o)).place oM;have d1:=c1 (k*2) _ (zi1 D k y hy).1;have d2:=c1 (k*2+1) _ (zi1 D k y hy).2;have d3:=c2 (k*2) _ (zi1 D k y hy).1;have d4:=c2 (k*2+1) _ (zi1 D k y hy).2;rw[<-dP]at d2 d4;clear c1 c2 hy;go_wp2_with fail;go_quiet (fail);go_wp2_with fail;refine⟨⟨k+1,rfl,a3,below_drewN d.o _⟩,?_⟩;simp only[intOf,aO];omega
 have L:¬(k:Int)<(n:Int):=oM;go_wp2_with fail;go_ret;exact⟨rfl,G.o.step d.o⟩
end Go.Proofs.YthoegkcpmgalbaaGreatDoor
