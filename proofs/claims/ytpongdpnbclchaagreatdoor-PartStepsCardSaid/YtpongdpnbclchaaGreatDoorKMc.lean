import Derived.Shelf.Strconv.Clone
import Derived.Shelf.Strconv.AppendIntPublic10
import Derived.Test.YtpongdpnbclchaaGreatDoorProg
import Derived.Lib.ItoaLen
import Derived.Test.YtpongdpnbclchaaGreatDoorKGe
set_option maxHeartbeats 8000000
set_option linter.all false
set_option maxRecDepth 100000
namespace Go.Proofs.YtpongdpnbclchaaGreatDoor
variable{B i k:Nat}{H U n:Int}{W w' wr:World}{e:Ed}{f:Tok->Tok}{h:List Int}{l r:List UInt8}{t:Tok}{v:Value}
section
open Go.Shelf
def Tryz.laysM176_ren:Go.Shelf.Ren:=⟨fun | 176=>156 | 249=>165 | 288=>166 | 283=>167 | 284=>168 | 285=>169 | 286=>170 | 129=>172 | 317=>171 | 318=>173 | 319=>174 | 320=>175 | 337=>176 | 338=>177 | n=>n,fun | 37=>246 | 2=>2 | 3=>3 | 53=>255 | 4=>4 | 9=>9 | 171=>258 | 0=>0 | 173=>261 | 212=>264 | 51=>265 | 5=>5 | 20=>20 | 213=>266 | 46=>267 | 232=>270 | 233=>271 | n=>n,fun | 17=>5 | 18=>6 | 19=>7 | n=>n⟩
theorem Tryz.laysM176:Go.Proofs.LaysM.n176 Tryz.prog Tryz.laysM176_ren:={
 mixed:=by kernel_rfl
 f129:=Tryz.func172.trans (congrArg some kR)
 f176:=Tryz.func156.trans (congrArg some kR)
 f249:=Tryz.func165.trans (congrArg some kR)
 f283:=Tryz.func167.trans (congrArg some kR)
 f284:=Tryz.func168.trans (congrArg some kR)
 f285:=Tryz.func169.trans (congrArg some kR)
 f286:=Tryz.func170.trans (congrArg some kR)
 f288:=Tryz.func166.trans (congrArg some kR)
 f317:=Tryz.func171.trans (congrArg some kR)
 f318:=Tryz.func173.trans (congrArg some kR)
 f319:=Tryz.func174.trans (congrArg some kR)
 f320:=Tryz.func175.trans (congrArg some kR)
 f337:=Tryz.func176.trans (congrArg some kR)
 f338:=Tryz.func177.trans (congrArg some kR)
 t0:=Tryz.underlying0
 a0:=Tryz.isAgg0
 z0:=Tryz.sizeOf0
 v0:=Tryz.zeroValue0
 t2:=Tryz.underlying2
 a2:=Tryz.isAgg2
 z2:=Tryz.sizeOf2
 v2:=Tryz.zeroValue2
 t3:=Tryz.underlying3
 a3:=Tryz.isAgg3
 z3:=Tryz.sizeOf3
 v3:=Tryz.zeroValue3
 t4:=Tryz.underlying4
 a4:=Tryz.isAgg4
 z4:=Tryz.sizeOf4
 v4:=Tryz.zeroValue4
 t5:=Tryz.underlying5
 a5:=Tryz.isAgg5
 z5:=Tryz.sizeOf5
 v5:=Tryz.zeroValue5
 t9:=Tryz.underlying9
 a9:=Tryz.isAgg9
 z9:=Tryz.sizeOf9
 v9:=Tryz.zeroValue9
 t20:=Tryz.underlying20
 a20:=Tryz.isAgg20
 z20:=Tryz.sizeOf20
 v20:=Tryz.zeroValue20
 t37:=Tryz.underlying246
 a37:=Tryz.isAgg246
 z37:=Tryz.sizeOf246
 v37:=Tryz.zeroValue246
 t46:=Tryz.underlying267
 a46:=Tryz.isAgg267
 z46:=Tryz.sizeOf267
 v46:=Tryz.zeroValue267
 t51:=Tryz.underlying265
 a51:=Tryz.isAgg265
 z51:=Tryz.sizeOf265
 v51:=Tryz.zeroValue265
 t53:=Tryz.underlying255
 a53:=Tryz.isAgg255
 z53:=Tryz.sizeOf255
 v53:=Tryz.zeroValue255
 t171:=Tryz.underlying258
 a171:=Tryz.isAgg258
 z171:=Tryz.sizeOf258
 v171:=Tryz.zeroValue258
 t173:=Tryz.underlying261
 a173:=Tryz.isAgg261
 z173:=Tryz.sizeOf261
 v173:=Tryz.zeroValue261
 t212:=Tryz.underlying264
 a212:=Tryz.isAgg264
 z212:=Tryz.sizeOf264
 v212:=Tryz.zeroValue264
 t213:=Tryz.underlying266
 a213:=Tryz.isAgg266
 z213:=Tryz.sizeOf266
 t232:=Tryz.underlying270
 a232:=Tryz.isAgg270
 z232:=Tryz.sizeOf270
 v232:=Tryz.zeroValue270
 t233:=Tryz.underlying271
 a233:=Tryz.isAgg271
 z233:=Tryz.sizeOf271
 v233:=Tryz.zeroValue271
 g17:=by kernel_rfl
 g18:=by kernel_rfl
 g19:=by kernel_rfl
 i0:=by kernel_rfl
 i2:=by kernel_rfl
 i3:=by kernel_rfl
 i4:=by kernel_rfl
 i5:=by kernel_rfl
 i9:=by kernel_rfl
 i20:=by kernel_rfl
 i37:=by kernel_rfl
 i46:=by kernel_rfl
 i51:=by kernel_rfl
 i53:=by kernel_rfl
 i171:=by kernel_rfl
 i173:=by kernel_rfl
 i212:=by kernel_rfl
 i232:=by kernel_rfl
 i233:=by kernel_rfl
 m17:=by kernel_rfl
 m18:=by kernel_rfl
 m19:=by kernel_rfl }
open Go.RowKit Go.Sort Go.Lib in
theorem Tryz.strconv_AppendInt_10 (B n:Nat) (i:Int) (h0 : -9223372036854775808<=i) (h1:i<=9223372036854775807) (sv:Value) (xs:List Value) (w:World) (hown:w.ownsRow B 5 1 sv n xs) (hBw:B<=w.heap.size) (hlim:n+21<=140737488355328) (htab:Lib.TabBelow Tryz.prog B w "internal/strconv.uint64pow10" .u64 Lib.pow10Tab) :
  Calls Tryz.prog 156 #[sv,nI i,nI 10] w λe w'=>∃v',e=.returned v'/\w'.ownsRow B 5 1 v' (n+(Lib.itoa i).length) (xs++Lib.byteCells (Lib.itoa i))/\Below B w w'/\Lib.OthersKept 5 none w w':=Any.strconv_AppendInt_10 Tryz.laysM176 B n i h0 h1 sv xs w hown hBw hlim htab
end
section
open Go.RowKit
def I64(v:Int):Prop := -9223372036854775808<=v/\v<=9223372036854775807
structure TkB(M:Nat)(t:Tok):Prop where
 hl:t.2.1.length<=M
 ll:t.2.2.length<=M
 hi:∀x∈t.2.1,I64 x
 li:∀x∈t.2.2,I64 x.1/\I64 x.2
def txH(n:Int)(h:List Int)(k:Nat):List UInt8:=Lib.itoa n++CT (wdH Lib.itoa (h.take k))
def txL(n:Int)(h:List Int)(l:List (Int×Int))(k:Nat):List UInt8:=txH n h h.length++CT (wdL Lib.itoa (l.take k))
theorem zR3(n:Int)(h:List Int):txH n h 0=Lib.itoa n:=by simp[txH,wdH,CT]
theorem zR4{x:Int}(hx:h[k]?=some x):txH n h (k+1)=txH n h k++[32,105,102,32]++Lib.itoa x:=by unfold txH;rw[List.take_add_one,hx];simp[wdH,CT,wIf]
theorem zR5(n:Int)(h:List Int)(l:List (Int×Int)):txL n h l 0=txH n h h.length:=by simp[txL,wdL,CT]
theorem zR6{l:List (Int×Int)}{x:Int×Int}(hx:l[k]?=some x):txL n h l (k+1)=txL n h l k++[32,119,104,105,108,101,32]++Lib.itoa x.1++[32,114,111,117,110,100,32]++Lib.itoa x.2:=by unfold txL;rw[List.take_add_one,hx];simp[wdL,CT,wg3,wk0]
theorem zL7(hm:t.1=false):txL n t.2.1 t.2.2 t.2.2.length=FC Lib.itoa (n,t):=by unfold txL txH FC wdT;rw[if_neg (by simp[hm]),List.take_length,List.take_length,zT9,List.append_assoc]
theorem yg9(hm:t.1=true):FC Lib.itoa (n,t)=Lib.itoa n++[32,109,101,114,103,101,100]:=by unfold FC wdT;rw[if_pos hm];simp[CT,wi8]
theorem zL8(hn:I64 n)(hh:∀x∈h,I64 x):∀k,k<=h.length->(txH n h k).length<=21+25*k
 | 0,_=>by rw[zR3];exact Lib.itoa_length_le n hn.1 hn.2
 | k+1,hk=>by have hx:h[k]?=some h[k]:=gG_ oM;have h1:=zL8 hn hh k oM;have h2:=hh _ (mG_ hx);have h3:=Lib.itoa_length_le _ h2.1 h2.2;rw[zR4 hx,List.length_append,List.length_append];simp only[List.length_cons,List.length_nil];omega
theorem zL9{l:List (Int×Int)}(hn:I64 n)(hh:∀x∈h,I64 x)(hl:∀x∈l,I64 x.1/\I64 x.2):∀k,k<=l.length->(txL n h l k).length<=21+25*h.length+56*k
 | 0,_=>by rw[zR5];exact zL8 hn hh _ (Nat.le_refl _)
 | k+1,hk=>by have hx:l[k]?=some l[k]:=gG_ oM;have h1:=zL9 hn hh hl k oM;have h2:=hl _ (mG_ hx);have h3:=Lib.itoa_length_le _ h2.1.1 h2.1.2;have h4:=Lib.itoa_length_le _ h2.2.1 h2.2.2;rw[zR6 hx];simp only[List.length_append,List.length_cons,List.length_nil];omega
theorem yD9(a b:List UInt8):Lib.byteCells (a++b)=Lib.byteCells a++Lib.byteCells b:=by simp[Lib.byteCells]
theorem wp0:(Tryz.prog.info? 5).map (λi=>(i.zero,i.size,i.bytes))=some (some (.int .u8 0),1,1):=by kernel_rfl
def Txt(w:World)(B:Nat)(v:Value)(l:List UInt8):Prop:=w.ownsRow B 5 1 v l.length (Lib.byteCells l)
theorem Txt.more{w:World}{n:Nat}{l':List UInt8}(h:w.ownsRow B 5 1 v (l.length+n) (Lib.byteCells l++Lib.byteCells l'))(hn:n=l'.length):Txt w B v (l++l'):=by unfold Txt;rw[List.length_append,yD9,<-hn];exact h
theorem zn7{w:World}{ops:Array Oper}{o:Oper}{a:Act}{K:Act->World->Prop}{Q:Exit->Act->World->Prop}{E:Prop}(hgd:o.guard=none)(s x:Operand)(t u:TypeId)
  (ho:o.op=.call { callee:=.builtin .append,args:=#[s,x],argTypes:=#[t,u] }) (ht:Tryz.prog.underlying t=some (.slice 5)) (hu:Tryz.prog.underlying u=some .string)
  (B:Nat) (sv:Value) (l:List UInt8) (hs:a.eval s=sv) (hown:Txt w B sv l) (r:List UInt8) (hx:a.eval x=.string ⟨r.toArray⟩) (hb:l.length+r.length<=140737488355328) (hB:B<=w.heap.size)
  (h:∀v' w',Txt w' B v' (l++r)->w.grownBy w' sv.ownBlock->K (a.put o.dst v') w') :
  if Region.wanted o (yielded ops a.tmps)=true then Oper.wp Tryz.prog o a w K Q else E:=by
 have hw:Region.wanted o (yielded ops a.tmps)=true:=by simp[Region.wanted,hgd]
 rw[if_pos hw];obtain⟨i,hi,hz,hsi,hby⟩:=zg6 wp0;have e:(⟨r.toArray⟩:ByteArray).size=r.length:=by simp[ByteArray.size]
 obtain⟨v',w',r1,r2,r3,_⟩:=Lib.run_append_own_string (P:=Tryz.prog) w B t u o.type 5 i ht hu hi hz hsi hby sv l.length (Lib.byteCells l) hown ⟨r.toArray⟩ (by rw[e];unfold maxLen;omega) (by rw[e];exact hb) hB;rw[Lib.strCells_toArray,e]at r2;unfold Oper.wp execOp;simp only[ho,resolve,invoke,builtin,Sem.run_bind,Sem.run_pure,Result.andThen_ok,List.map_toArray,List.map_cons,List.map_nil,hs,hx,r1];exact h v' w' (Txt.more r2 rfl) r3
theorem zl1{w:World}{ops:Array Oper}{rest:List Oper}{o:Oper}{a:Act}{Q:Exit->Act->World->Prop}(hgd:o.guard=none)(s x:Operand)(t u:TypeId)
  (ho:o.op=.call { callee:=.builtin .append,args:=#[s,x],argTypes:=#[t,u] }) (ht:Tryz.prog.underlying t=some (.slice 5)) (hu:Tryz.prog.underlying u=some .string)
  (B:Nat) (sv:Value) (l:List UInt8) (hs:a.eval s=sv) (hown:Txt w B sv l) (r:List UInt8) (hx:a.eval x=.string ⟨r.toArray⟩) (hb:l.length+r.length<=140737488355328) (hB:B<=w.heap.size)
  (h:∀v' w',Txt w' B v' (l++r)->w.grownBy w' sv.ownBlock->wpList Tryz.prog ops Q rest (a.put o.dst v') w'):wpList Tryz.prog ops Q (o::rest) a w:=by
 obtain⟨i,hi,hz,hsi,hby⟩:=zg6 wp0;have e:(⟨r.toArray⟩:ByteArray).size=r.length:=by simp[ByteArray.size]
 refine Lib.wpList_append_own_string w hgd s x t u ho B 5 i ht hu hi hz hsi hby sv l.length (Lib.byteCells l) hs hown ⟨r.toArray⟩ hx (by rw[e];unfold maxLen;omega) (by rw[e];exact hb) hB ?_;intro v' w' k1 k2 _;rw[Lib.strCells_toArray,e]at k1;exact h v' w' (Txt.more k1 rfl) k2
theorem zn2{w:World}(h:Txt w B v l)(i:Int)(hi:I64 i)(hB:B<=w.heap.size)(hl:l.length+21<=140737488355328)(hT:Lib.TabBelow Tryz.prog B w "internal/strconv.uint64pow10" .u64 Lib.pow10Tab) :
  Calls Tryz.prog 156 #[v,nI i,nI 10] w λe w'=>∃v',e=.returned v'/\Txt w' B v' (l++Lib.itoa i)/\Below B w w'/\Lib.OthersKept 5 none w w' :=
 (Tryz.strconv_AppendInt_10 B l.length i hi.1 hi.2 v _ w h hB hl hT).mono λe w' ⟨v',h1,h2,h3,h4⟩=>⟨v',h1,Txt.more h2 rfl,h3,h4⟩
theorem Txt.others{w:World}(h:Txt w B v l)(hg:w.grownBy w' v.ownBlock):Lib.OthersKept 5 none w w':=λk o hk _ ho =>
 (hg.block k (za2 hk) λe=>by
  rcases h.2 with ⟨rfl,_⟩ | ⟨g,cap,cur,rfl,_,hgg,_⟩
  ·cases e
  have e1:k=g:=Option.some.inj e;subst e1;rw[hgg]at hk
  injection hk with hk
  exact ho _ _ hk.symm).trans hk
theorem zn3{w:World}(h:Lib.OthersKept 5 none w w'){g:Nat}{cs:Array Value}{t:TypeId}{fz:Nat×Nat}(hr:w.heap[g]?=some (.cells cs t fz))(ht:t≠5):w'.heap[g]?=some (.cells cs t fz):=h g _ hr sI λc f e=>by injection e with _ e2;exact ht e2
theorem Txt.conv{w:World}(h:Txt w B v l)(hp:0<l.length):(convert 246 9 v).run Tryz.prog w=.ok (.string ⟨l.toArray⟩) w:=by
 rcases h.2 with ⟨_,h0⟩ | ⟨g,cap,cur,rfl,_⟩
 ·omega
 exact run_convert_bytes_back (P:=Tryz.prog) w 246 9 5 ⟨g,0,none⟩ cap l Tryz.underlying246 Tryz.underlying5 Tryz.underlying9 (λj hj=>World.ownsRow.cells h (g:=g) rfl j _ (by simp[Lib.byteCells,hj]))
theorem yA8(n:Int)(h:List Int)(k:Nat):0<(txH n h k).length:=by unfold txH;have h1:=zz7.ne n;have h2:0<(Lib.itoa n).length:=List.length_pos_iff.2 h1;rw[List.length_append];omega
theorem SL.at{w:World}{s:Nat}{n:Nat}{xs:List Value}(h:SL w s v n xs)(hs:0<s)(hk:k<n):∃b o cap,v=.slice (sA b o) n cap/\b<w.heap.size/\∀j u,xs[j]?=some u->w.cell? ⟨b,o+j,none⟩=some u:=by
 obtain⟨_,_,ao,cap,rfl,h2⟩:=h;rcases h2 with h2 | ⟨b,o,rfl,hl,hc⟩
 ·omega
 exact⟨b,o,cap,rfl,hl,hc⟩
theorem zk6{l:List Int}{x:Int}(h:l[k]?=some x):(ilL l)[k]?=some (nI x):=by unfold ilL;rw[List.getElem?_map,h];rfl
structure TxI(W wr:World)(v:Value)(l:List UInt8):Prop where
 ok:Ok W wr
 own:Txt wr W.heap.size v l
theorem TxI.as(h:TxI W wr v l)(e:l=r):TxI W wr v r:=by rw[<-e];exact h
theorem TxI.alloc(h:TxI W wr v l)(o:Obj):TxI W (wr.alloc o) v l:=⟨h.ok.alloc o,World.ownsRow.alloc h.own o⟩
theorem TxI.drew(h:TxI W wr v l):TxI W wr.drew v l:=⟨Below.drew h.ok,h.own⟩
theorem TxI.str{v':Value}(h:TxI W wr v l)(h1:Txt w' W.heap.size v' (l++r))(h2:wr.grownBy w' v.ownBlock):TxI W w' v' (l++r):=⟨h.ok.grown h2 (λb e=>(World.ownsRow.lt h.own b e).1),h1⟩
theorem TxI.num{v':Value}(h:TxI W wr v l)(h1:Txt w' W.heap.size v' r)(h2:Below W.heap.size wr w'):TxI W w' v' r:=⟨Below.trans h.ok h2,h1⟩
theorem zW4(n:Int)(hv lv:Value)(t:Tok)(w:World)(hn:I64 n)(ht:BC w hv lv t)(hb:TkB 100000 t)(hT:Lib.TabBelow Tryz.prog w.heap.size w "internal/strconv.uint64pow10" .u64 Lib.pow10Tab) :
  Calls Tryz.prog 149 #[nI n,.agg #[.bool t.1,hv,lv]] w λe w'=>e=.returned (.string ⟨(FC Lib.itoa (n,t)).toArray⟩)/\Ok w w':=by
 have HT:=hid ht;have HB:=hid hb;have HN:=hid hn;have HTB:Hi (∀ Y B,Ok w Y->w.heap.size<=B->Lib.TabBelow Tryz.prog B Y "internal/strconv.uint64pow10" .u64 Lib.pow10Tab):=fun Y B hY hB w' hw'=>hT w' (Below.trans hY (hw'.mono hB));obtain ⟨_,_,ho,hc,rfl,_⟩:=ht.hist;obtain ⟨_,_,lo,lc,rfl,_⟩:=ht.loops;obtain ⟨m,hmm⟩:=qq (t.1);obtain ⟨q,hq⟩:=qq (t.2.1.length);obtain ⟨c,hcc⟩:=qq (t.2.2.length);have HQ:Hi (m=t.1/\q=t.2.1.length/\c=t.2.2.length):=⟨hmm,hq,hcc⟩;rw [<-hq,<-hcc] at HT;rw [<-hmm,<-hq,<-hcc];clear ht hb hn hT hmm hq hcc;go_enter Tryz.func149,Tryz.ntmps149;go_wp2_with fail;obtain ⟨W,hW⟩:=qq (w.alloc (Obj.cells #[.bool m,.slice ho q hc,.slice lo c lc] 28));obtain ⟨gb,hgb⟩:=qq (w.heap.size);rw [<-hW,<-hgb];have HK:Hi (Ok w W):=by rw [hW];exact (Ok.refl w).alloc _
 have HP:Hi (W.heap[gb]?=some (.cells #[Value.bool m,Value.slice ho q hc,Value.slice lo c lc] 28 (0,0))):=by rw[hW,hgb];exact jj
 have HS:=hid HK.o.le;clear hW hgb;have h0:Txt W W.heap.size (sZ) []:=World.ownsRow_nil _ _ _ _;refine(zn2 h0 n HN.o (nR_ _) sI (HTB.o W _ HK.o HS.o)).mono ?_;rintro e w1 ⟨v1,rfl,h1,h2,_⟩;have HI:Hi (TxI W w1 v1 (Lib.itoa n)):=⟨h2,h1⟩;clear h0 h1 h2;have HP1:Hi _:=Ok.row' HI.o.ok HP.o;obtain⟨c0,c1,c2,c3,c4,c5⟩:=za9 HP1.o;have lgb:=za2 HP1.o;obtain⟨vo,vc,rfl⟩:=za0 HI.o.own
 cases m with
 | true =>
  go_wp2_with (first|(at_builtin;refine zl1 rfl _ _ 246 9 rfl Tryz.underlying246 Tryz.underlying9 W.heap.size _ (Lib.itoa n) (by rfl) HI.o.own [32,109,101,114,103,101,100] (by rfl) (by have:=Lib.itoa_length_le n HN.o.1 HN.o.2;simp;omega) HI.o.ok.le ?_;intro v2 w2 k1 k2;have HI2:Hi _:=HI.o.str k1 k2;clear k1 k2;have hcv:=HI2.o.own.conv (by simp))|fail)
  go_ret;rw[yg9 HQ.o.1.symm];exact⟨rfl,HK.o.step HI2.o.ok⟩
 | false =>
  have HLN:Hi (∀k,k<=q->(txH n t.2.1 k).length<=3000000):=λk hk=>by have h1:=zL8 (h:=t.2.1) HN.o HB.o.hi k (by rw[<-HQ.o.2.1];exact hk);have h2:=HB.o.hl;have h3:=HQ.o.2.1;omega
  have HLL:Hi (∀k,k<=c->(txL n t.2.1 t.2.2 k).length<=9000000):=λk hk=>by have h1:=zL9 (h:=t.2.1) (l:=t.2.2) HN.o HB.o.hi HB.o.li k (by rw[<-HQ.o.2.2];exact hk);have h2:=HB.o.hl;have h4:=HB.o.ll;have h3:=HQ.o.2.2;omega
  go_wp2_with fail;go_loopw [5,20] (λt5 t20 wr=>∃(k:Nat),t20=nI (k:Nat)/\k<=q/\Hi (TxI W wr t5 (txH n t.2.1 k))) (λ_ t20 _=>((q:Int)-intOf t20).toNat)
  case atStart=>exact⟨0,rfl,Nat.zero_le _,by rw[zR3];exact HI.o⟩
  clear c0 c1 c2 c3 c4 c5 lgb HP1;obtain⟨k,rfl,hk,HR⟩:=hrel;have HP1:Hi _:=Ok.row' HR.o.ok HP.o;obtain⟨c0,c1,c2,c3,c4,c5⟩:=za9 HP1.o;have lgb:=za2 HP1.o;by_cases hkl:k<q
  ·obtain⟨x,hx⟩:∃x,t.2.1[k]?=some x:=⟨_,List.getElem?_eq_getElem (by rw[<-HQ.o.2.1];exact hkl)⟩
   obtain⟨b,o,cp,e1,e2,e3⟩:=HT.o.hist.at (by decide) (k:=k) (by rw[<-HQ.o.2.1];exact hkl)
   injection e1 with e4 e6 e5
   clear e6;subst e4 e5;have r0:wr.cell? ⟨b,o+k,none⟩=some (nI x):=(HK.o.step HR.o.ok).cell (p:=⟨b,o+k,none⟩) e2 (e3 _ _ (zk6 hx));have HX:=hid hx;have HX6:Hi (I64 x):=HB.o.hi _ (mG_ hx);have hlt:(k:Int)<(q:Int):=za5 hkl;have kw:IntKind.i64.wrap ((k:Int)+1)=((k+1:Nat):Int):=zb3 (by have h1:=HB.o.hl;have h2:=HQ.o.2.1;omega);clear e2 e3 hx
   go_wp2_with (first|(at_builtin;refine zl1 rfl _ _ 246 9 rfl Tryz.underlying246 Tryz.underlying9 W.heap.size _ (txH n t.2.1 k) (by rfl) HR.o.own [32,105,102,32] (by rfl) (by have h1:=HLN.o k hk;simp;omega) HR.o.ok.le ?_;intro v2 w2 k1 k2;have HR2:Hi _:=HR.o.str k1 k2;clear k1 k2) | (go_at_call 156;refine(zn2 HR2.o.own x HX6.o HR2.o.ok.le (by have h1:=HLN.o k hk;simp;omega) (HTB.o _ _ (HK.o.step HR2.o.ok) HS.o)).mono ?_;rintro e w3 ⟨v3,rfl,k1,k2,_⟩;have HR3:Hi _:=HR2.o.num k1 k2;clear k1 k2)|fail)
   go_roundw
   case rel=>exact⟨k+1,rfl,hkl,by rw[zR4 HX.o];exact HR3.o⟩
   case measure=>exact we3 hkl
  have hlt:¬(k:Int)<(q:Int):=zb2 hkl;have HE:Hi _:=HR.o.as (show txH n t.2.1 k=txL n t.2.1 t.2.2 0 by rw[zR5,<-HQ.o.2.1,show q=k by omega]);go_wp2_with fail;obtain⟨W3,hW3⟩:=qq (wr);subst hW3;go_loopw [5,32] (λt5 t32 wr=>∃(k:Nat),t32=nI (k:Nat)/\k<=c/\Hi (TxI W wr t5 (txL n t.2.1 t.2.2 k))) (λ_ t32 _=>((c:Int)-intOf t32).toNat)
  case atStart=>exact⟨0,rfl,zL_ _,HE⟩
  clear c0 c1 c2 c3 c4 c5 lgb HP1 HE hlt hkl HR hk;obtain⟨k,rfl,hk,HR⟩:=hrel;have HP1:Hi _:=Ok.row' HR.o.ok HP.o;obtain⟨c0,c1,c2,c3,c4,c5⟩:=za9 HP1.o;have lgb:=za2 HP1.o;by_cases hkl:k<c
  ·obtain⟨x,hx⟩:∃x,t.2.2[k]?=some x:=⟨_,List.getElem?_eq_getElem (by rw[<-HQ.o.2.2];exact hkl)⟩
   obtain⟨b,o,cp,e1,e2,e3⟩:=HT.o.loops.at (by decide) (k:=k) (by rw[<-HQ.o.2.2];exact hkl)
   injection e1 with e4 e6 e5
   clear e6;subst e4 e5;have r0:wr.cell? ⟨b,o+k*2,none⟩=some (nI x.1):=(HK.o.step HR.o.ok).cell (p:=⟨b,o+k*2,none⟩) e2 (e3 _ _ (zi1 _ _ _ hx).1);have r1:wr.cell? ⟨b,o+k*2+1,none⟩=some (nI x.2):=(HK.o.step HR.o.ok).cell (p:=⟨b,o+k*2+1,none⟩) e2 (e3 (k*2+1) _ (zi1 _ _ _ hx).2);have HX:=hid hx;have HX6:Hi (I64 x.1/\I64 x.2):=HB.o.li _ (mG_ hx);have hlt:(k:Int)<(c:Int):=za5 hkl;have kw:IntKind.i64.wrap ((k:Int)+1)=((k+1:Nat):Int):=zb3 (by have h1:=HB.o.ll;have h2:=HQ.o.2.2;omega);clear e2 e3 hx
   go_upto_region 12 with (fail)
   obtain⟨Y,hY⟩:=qq (wr.alloc (Obj.cells #[nI x.1,nI x.2] 45));obtain⟨g9,hg9⟩:=qq (wr.heap.size);rw[<-hY,<-hg9];have HY:Hi (Y.heap[g9]?=some (.cells #[nI x.1,nI x.2] 45 (0,0))):=by rw[hY,hg9];exact jj
   have HRY:Hi _:=HR.o.alloc (Obj.cells #[nI x.1,nI x.2] 45);rw[<-hY]at HRY;clear hY hg9 c0 c1 c2 c3 c4 c5 lgb r0 r1;obtain⟨d0,d1,d2,d3⟩:=zd1 HY.o;have HD2:Hi _:=HRY.o.drew;have HYD2:=hid HY.o
   go_region_held3 (λw'=>w'.cell? (aD g9 0)=some (nI x.1)) (go_keep) (first|(refine zn7 (by rfl) _ _ 246 9 (by rfl) Tryz.underlying246 Tryz.underlying9 W.heap.size _ (txL n t.2.1 t.2.2 k) (by rfl) HD2.o.own [32,119,104,105,108,101,32] (by rfl) (by have h1:=HLL.o k hk;have h2:=Lib.itoa_length_le _ HX6.o.1.1 HX6.o.1.2;simp;omega) HD2.o.ok.le ?_;intro v2 w2 k1 k2;have HR2:Hi _:=HD2.o.str k1 k2;have HY2:Hi _:=zn3 (HD2.o.own.others k2) HYD2.o (by decide);clear k1 k2 d0 d1 d2 d3;obtain⟨d0,d1,d2,d3⟩:=zd1 HY2.o) | (go_at_call 156;refine(zn2 HR2.o.own x.1 HX6.o.1 HR2.o.ok.le (by have h1:=HLL.o k hk;have h2:=Lib.itoa_length_le _ HX6.o.1.1 HX6.o.1.2;simp;omega) (HTB.o _ _ (HK.o.step HR2.o.ok) HS.o)).mono ?_;rintro e w3 ⟨v3,rfl,k1,k2,k3⟩;have HR3:Hi _:=HR2.o.num k1 k2;have HY3:Hi _:=zn3 k3 HY2.o (by decide);clear k1 k2 k3 d0 d1 d2 d3;obtain⟨d0,d1,d2,d3⟩:=zd1 HY3.o)|fail)
   go_upto_region 13 with (fail)
   have HD4:Hi _:=HR3.o.drew;have HYD4:=hid HY3.o
   go_region_held3 (λw'=>w'.cell? (aD g9 1)=some (nI x.2)) (go_keep) (first|(refine zn7 (by rfl) _ _ 246 9 (by rfl) Tryz.underlying246 Tryz.underlying9 W.heap.size _ ((txL n t.2.1 t.2.2 k++[32,119,104,105,108,101,32])++Lib.itoa x.1) (by rfl) HD4.o.own [32,114,111,117,110,100,32] (by rfl) (by have h1:=HLL.o k hk;have h2:=Lib.itoa_length_le _ HX6.o.1.1 HX6.o.1.2;simp;omega) HD4.o.ok.le ?_;intro v4 w4 k1 k2;have HR4:Hi _:=HD4.o.str k1 k2;have HY4:Hi _:=zn3 (HD4.o.own.others k2) HYD4.o (by decide);clear k1 k2 d0 d1 d2 d3;obtain⟨d0,d1,d2,d3⟩:=zd1 HY4.o) | (go_at_call 156;refine(zn2 HR4.o.own x.2 HX6.o.2 HR4.o.ok.le (by have h1:=HLL.o k hk;have h2:=Lib.itoa_length_le _ HX6.o.1.1 HX6.o.1.2;simp;omega) (HTB.o _ _ (HK.o.step HR4.o.ok) HS.o)).mono ?_;rintro e w5 ⟨v5,rfl,k1,k2,k3⟩;have HR5:Hi _:=HR4.o.num k1 k2;have HY5:Hi _:=zn3 k3 HY4.o (by decide);clear k1 k2 k3 d0 d1 d2 d3;obtain⟨d0,d1,d2,d3⟩:=zd1 HY5.o)|fail)
   go_wp2_with fail;go_roundw
   case rel=>exact⟨k+1,rfl,hkl,by rw[zR6 HX.o];exact HR5.o⟩
   case measure=>exact we3 hkl
  have hlt:¬(k:Int)<(c:Int):=zb2 hkl;have HE:Hi _:=HR.o.as (show txL n t.2.1 t.2.2 k=FC Lib.itoa (n,t) by rw[<-zL7 HQ.o.1.symm,<-HQ.o.2.2,show c=k by omega]);have hcv:=HE.o.own.conv (by rw[<-zL7 HQ.o.1.symm];unfold txL;rw[List.length_append];have:=yA8 n t.2.1 t.2.1.length;omega);go_wp2_with fail;go_ret;exact⟨rfl,HK.o.step HE.o.ok⟩
end
section
open Go.RowKit
theorem zj5(H U:Int)(e:Ed)(i:Nat)(t:Tok):(AK H U e i t).1=t.1:=by
 unfold AK
 split
 ·rename_i h;rw[h];rfl
 rename_i h
 have h1:t.1=false:=by simpa using h
 rw[h1]
 repeat' split
 all_goals rfl
theorem zQ0(h:e.op≠5)(t:Tok):AK H U e i t=cpT t:=by
 obtain⟨b,x,y⟩:=t
 cases b<;>simp[AK,cpT,h]
theorem zF5(h:e.op=5)(hl:e.loop=false)(t:Tok):AK H U e i t=wg4 H i t:=by
 obtain⟨b,x,y⟩:=t
 cases b<;>simp[AK,wg4,h,hl]
theorem zF6(h:e.op=5)(hl:e.loop=true)(hs:e.sense=false)(t:Tok):AK H U e i t=wh5 e.from' t:=by
 obtain⟨b,x,y⟩:=t;cases b
 ·simp only[AK,wh5,cpT,h,hl,hs]
  by_cases d:EO (false,x,y) e.from'=true
  ·simp[d]
  simp[d]
 simp only[AK,wh5,cpT];by_cases d:EO (true,x,y) e.from'=true
 ·simp[d]
 simp[d]
theorem zF7(h:e.op=5)(hl:e.loop=true)(hs:e.sense=true)(hU:0<U)(t:Tok):AK H U e i t=wg5 e.from' U t:=by
 obtain⟨b,x,y⟩:=t
 cases b<;>simp[AK,wg5,h,hl,hs,hU]
theorem zQ1(h:e.op=5)(hl:e.loop=true)(hs:e.sense=true)(hU:¬0<U)(t:Tok):AK H U e i t=cpT t:=by
 obtain⟨b,x,y⟩:=t
 cases b<;>simp[AK,cpT,h,hl,hs,hU]
structure TkW(t:Tok):Prop where
 hz:t.2.1.length*8+8<=140737488355328
 lz:t.2.2.length*16+16<=140737488355328
 hi:∀x∈t.2.1,I64 x
 li:∀x∈t.2.2,I64 x.1/\I64 x.2
def ET(w:World)(v:Value)(f:Tok->Tok):Prop:=∃(fid:Nat) (caps:Array Value),v=.func (.func fid) #[] caps/\(∀(args:Array Value) (Y:World),(callFunc fid args).run Tryz.prog Y=.ok (.enter fid args) Y) /\
 ∀(Y:World) (hv lv:Value) (t:Tok),Ok w Y->BC Y hv lv t->TkW t->Calls Tryz.prog fid (#[.agg #[.bool t.1,hv,lv]]++caps) Y λe w'=>∃hv' lv',e=.returned (.agg #[.bool (f t).1,hv',lv'])/\AA w' Y.heap.size hv' lv' (f t)/\Ok Y w'
theorem ET.ok{w:World}(h:ET w v f)(hk:Ok w w'):ET w' v f:=by obtain⟨fid,caps,h1,h2,h3⟩:=h;exact⟨fid,caps,h1,h2,λY hv lv t hY=>h3 Y hv lv t (hk.step hY)⟩
theorem ET.of{w:World}{fid:Nat}{caps:Array Value}{g:Tok->Tok}(hen:∀(args:Array Value) (Y:World),(callFunc fid args).run Tryz.prog Y=.ok (.enter fid args) Y)(hf:∀t,(f t).1=t.1)(hg:∀t,f t=g t)
  (h:∀(Y:World) (hv lv:Value) (t:Tok),Ok w Y->BC Y hv lv t->TkW t->Calls Tryz.prog fid (#[.agg #[.bool t.1,hv,lv]]++caps) Y λe w'=>∃hv' lv',e=.returned (.agg #[.bool t.1,hv',lv'])/\AA w' Y.heap.size hv' lv' (g t)/\Ok Y w'):ET w (.func (.func fid) #[] caps) f :=
 ⟨fid,caps,rfl,hen,λY hv lv t hY ht hb=>by rw[hf t,hg t];exact h Y hv lv t hY ht hb⟩
theorem TkW.sz(h:TkW t):t.2.1.length*8+8<=140737488355328/\t.2.2.length*16+16<=140737488355328:=⟨h.hz,h.lz⟩
theorem TkB.w(h:TkB 100000 t):TkW t:=⟨by have:=h.hl;omega,by have:=h.ll;omega,h.hi,h.li⟩
theorem zJ9(w:World)(hf:∀t,(f t).1=t.1)(hg:∀t,f t=cpT t):ET w (.func (.func 32) #[] #[]) f :=
 ET.of (λargs Y=>by kernel_rfl) hf hg λY hv lv t hY ht hb=>zi2 hv lv t Y ht (by have:=hb.sz;omega)
theorem zQ2{w:World}{gm ge:Nat}{i:Int}(hm:w.cell? (aD gm 0)=some (nI H))(he:w.cell? (aD ge 0)=some (nI i))(lm:gm<w.heap.size)(le:ge<w.heap.size)(hf:∀t,(f t).1=t.1)(hg:∀t,f t=wg4 H i t):ET w (.func (.func 60) #[] #[pA gm 0,pA ge 0]) f :=
 ET.of (λargs Y=>by kernel_rfl) hf hg λY hv lv t hY ht hb=>zA0 hv lv t gm ge H i Y ht (by have:=hb.sz;omega) (hY.cell (p:=⟨gm,0,none⟩) lm hm) (hY.cell (p:=⟨ge,0,none⟩) le he) (lL_ lm hY.le) (lL_ le hY.le)
theorem zQ3{w:World}{gh:Nat}{h:Int}(hm:w.cell? (aD gh 0)=some (nI h))(lm:gh<w.heap.size)(hf:∀t,(f t).1=t.1)(hg:∀t,f t=wh5 h t):ET w (.func (.func 61) #[] #[pA gh 0]) f :=
 ET.of (λargs Y=>by kernel_rfl) hf hg λY hv lv t hY ht hb=>zU1 hv lv t gh h Y ht (by have:=hb.sz;omega) (hY.cell (p:=⟨gh,0,none⟩) lm hm) (lL_ lm hY.le)
theorem zQ4{w:World}{gm ge:Nat}{h:Int}(hm:w.cell? (aD gm 0)=some (nI h))(he:w.cell? (aD ge 0)=some (nI U))(lm:gm<w.heap.size)(le:ge<w.heap.size)(hU:0<U/\U<=1000)(hf:∀t,(f t).1=t.1)(hg:∀t,f t=wg5 h U t):ET w (.func (.func 63) #[] #[pA gm 0,pA ge 0]) f :=
 ET.of (λargs Y=>by kernel_rfl) hf hg λY hv lv t hY ht hb=>zF4 hv lv t gm ge U h Y ht (by have:=hb.sz;omega) (hY.cell (p:=⟨gm,0,none⟩) lm hm) (hY.cell (p:=⟨ge,0,none⟩) le he) (lL_ lm hY.le) (lL_ le hY.le) hU (λx hx=>(hb.li x hx).2.1)
theorem zU2(e:Ed)(i:Nat)(H U c2 c3 c4 c5 c7 c8:Int)(tv:Value)(w:World)(hU:U<=1000) :
  Calls Tryz.prog 17 #[.agg #[nI e.from',nI e.to',nI e.op,nI e.place,.bool e.sense,.bool e.loop],nI (i:Nat),.agg #[nI H,nI U,nI c2,nI c3,nI c4,nI c5,tv,nI c7,nI c8]] w λex w'=>∃v,ex=.returned v/\ET w' v (AK H U e i)/\Ok w w':=by
 have HF:=hid (zj5 H U e i);have HU:=hid hU;obtain⟨ef,et,eo,ep,es,el⟩:=e;clear hU;by_cases h5:eo=5
 ·subst h5
  cases el with
  | false =>
   have HG:Hi _:=zF5 (H:=H) (U:=U) (i:=i) (e:=⟨ef,et,5,ep,es,false⟩) rfl rfl;go_enter Tryz.func17,Tryz.ntmps17;go_wp2;go_ret;exact⟨_,rfl,zQ2 (gm:=w.heap.size+1+1+1) (ge:=w.heap.size+1+1) (by simp[go_sem]) (by simp[go_sem]) (by simp) (by simp) HF.o HG.o,((((Ok.refl w).alloc _).alloc _).alloc _).alloc _⟩
  | true =>
   cases es with
   | false =>
    have HG:Hi _:=zF6 (H:=H) (U:=U) (i:=i) (e:=⟨ef,et,5,ep,false,true⟩) rfl rfl rfl;go_enter Tryz.func17,Tryz.ntmps17;go_wp2;go_ret;exact⟨_,rfl,zQ3 (gh:=w.heap.size+1+1) (by simp[go_sem]) (by simp) HF.o HG.o,(((Ok.refl w).alloc _).alloc _).alloc _⟩
   | true =>
    by_cases hp:0<U
    ·have HG:Hi _:=zF7 (H:=H) (U:=U) (i:=i) (e:=⟨ef,et,5,ep,true,true⟩) rfl rfl rfl hp
     have HP:=hid hp;go_enter Tryz.func17,Tryz.ntmps17;go_wp2;go_ret;exact⟨_,rfl,zQ4 (gm:=w.heap.size+1+1) (ge:=w.heap.size+1+1+1) (by simp[go_sem]) (by simp[go_sem]) (by simp) (by simp) ⟨HP.o,HU.o⟩ HF.o HG.o,((((Ok.refl w).alloc _).alloc _).alloc _).alloc _⟩
    have HG:Hi _:=zQ1 (H:=H) (U:=U) (i:=i) (e:=⟨ef,et,5,ep,true,true⟩) rfl rfl rfl hp;go_enter Tryz.func17,Tryz.ntmps17;go_wp2;go_ret;exact⟨_,rfl,zJ9 _ HF.o HG.o,((Ok.refl w).alloc _).alloc _⟩
 have HG:Hi _:=zQ0 (H:=H) (U:=U) (i:=i) (e:=⟨ef,et,eo,ep,es,el⟩) h5;have h5':(eo != 5)=true:=by simpa using h5
 go_enter Tryz.func17,Tryz.ntmps17;go_wp2;go_ret;exact⟨_,rfl,zJ9 _ HF.o HG.o,((Ok.refl w).alloc _).alloc _⟩
end
section
open Go.RowKit
theorem SL.place{w:World}{s n:Nat}{ao:Option Addr}{c:Nat}{xs:List Value}(h:SL w s (.slice ao n c) n xs)(hn:0<n):∃b off,ao=some ⟨b,off,none⟩/\b<w.heap.size/\∀(j:Nat) (u:Value),xs[j]?=some u->w.cell? ⟨b,off+j,none⟩=some u:=by
 obtain⟨_,_,ao',c',e,h2⟩:=h
 injection e with e1 _ _
 subst e1;exact h2.resolve_left oM
theorem zM0(a b:Value)(l:List Int)(w:World)(h1:SL w 1 a l.length (ilL l))(h2:SL w 1 b l.length (ilL l))(hl:l.length<=4000000000000000000) :
  Calls Tryz.prog 18 #[a,b] w λe w'=>e=.returned (.bool true)/\Ok w w':=by
 have H1:=hid h1;have H2:=hid h2;obtain⟨_,_,ao,ac,rfl,_⟩:=h1;obtain⟨_,_,bo,bc,rfl,_⟩:=h2;obtain⟨n,hn⟩:=qq (l.length);have HN:Hi (n=l.length/\n<=4000000000000000000):=⟨hn,by omega⟩;rw[<-hn]at H1 H2 ⊢;clear hn hl;go_enter Tryz.func18,Tryz.ntmps18;go_wp2_with fail;go_loopw [5] (λt wr=>∃k:Nat,t=nI (k:Nat)/\k<=n/\Hi (Ok w wr)) (λt _=>n-(intOf t).toNat)
 case atStart=>exact⟨0,rfl,zL_ _,Ok.refl _⟩
 obtain⟨k,rfl,hk,HK⟩:=hrel;by_cases hkl:k<n
 ·have hkl':(k:Int)<(n:Int):=za5 hkl
  have hkw:IntKind.i64.wrap ((k:Int)+1)=((k+1:Nat):Int):=by rw[IntKind.wrap_i64];have:=HN.o;omega
  obtain⟨y,hy⟩:∃y,l[k]?=some y:=⟨_,gG_ (by have:=HN.o;omega)⟩;obtain⟨b1,f1,rfl,q1,c1⟩:=(H1.o.below HK.o).place oM;obtain⟨b2,f2,rfl,q2,c2⟩:=(H2.o.below HK.o).place oM;have d1:=c1 k (nI y) (zk6 hy);have d2:=c2 k (nI y) (zk6 hy);clear c1 c2 hy;go_wp2_with fail;go_quiet (fail);go_wp2_with fail;refine⟨⟨k+1,rfl,hkl,below_drewN HK.o _⟩,?_⟩;simp only[intOf,Int.toNat_natCast];omega
 have hkl':¬(k:Int)<(n:Int):=oM;go_wp2_with fail;go_ret;exact⟨rfl,HK.o⟩
theorem zH2(hv lv hv' lv':Value)(t:Tok)(w:World)(h1:BC w hv lv t)(h2:BC w hv' lv' t)(hb:t.2.1.length<=4000000000000000000/\t.2.2.length<=4000000000000000000) :
  Calls Tryz.prog 8 #[.agg #[.bool t.1,hv,lv],.agg #[.bool t.1,hv',lv']] w λe w'=>e=.returned (.bool true)/\Ok w w':=by
 have H1:=hid h1.loops;have H2:=hid h2.loops;have HS:Hi (∀Y,Ok w Y->Calls Tryz.prog 18 #[hv,hv'] Y λe w'=>e=.returned (.bool true)/\Ok Y w'):=λY hY=>zM0 hv hv' t.2.1 Y (h1.hist.below hY) (h2.hist.below hY) hb.1;obtain⟨_,_,ho,hc,e1,_⟩:=h1.hist;obtain⟨_,_,lo,lc,e2,_⟩:=h1.loops;obtain⟨_,_,ho',hc',e3,_⟩:=h2.hist;obtain⟨_,_,lo',lc',e4,_⟩:=h2.loops;obtain⟨m,hs,ls⟩:=t;obtain⟨q,hq⟩:=qq (hs.length);obtain⟨n,hn⟩:=qq (ls.length);have HN:Hi (n=ls.length/\n<=4000000000000000000):=⟨hn,hn ▸ hb.2⟩;simp only[<-hq,<-hn]at e1 e2 e3 e4 H1 H2;subst e1 e2 e3 e4;clear hn hq hb h1 h2;go_enter Tryz.func8,Tryz.ntmps8;go_wp2_with fail;obtain⟨W,hW⟩:=qq ((w.alloc (Obj.cells #[.bool m,.slice ho q hc,.slice lo n lc] 28)).alloc (Obj.cells #[.bool m,.slice ho' q hc',.slice lo' n lc'] 28));obtain⟨gA,hgA⟩:=qq (w.heap.size);obtain⟨gB,hgB⟩:=qq (w.heap.size+1);rw[<-hW,<-hgB,<-hgA];have HK0:Hi (Ok w W):=by rw[hW];exact((Ok.refl w).alloc _).alloc _
 have HA:Hi (W.heap[gA]?=some (.cells #[.bool m,.slice ho q hc,.slice lo n lc] 28 (0,0))):=by rw[hW,hgA];exact jj
 have HB:Hi (W.heap[gB]?=some (.cells #[.bool m,.slice ho' q hc',.slice lo' n lc'] 28 (0,0))):=by rw[hW,hgB];exact jj
 clear hW hgA hgB;refine mq (HS.o W HK0.o) λw1 hk1=>?_;obtain⟨a0,a1,a2,_⟩:=za9 (Ok.row' hk1 HA.o);have la:=za2 (Ok.row' hk1 HA.o);obtain⟨b0,b1,b2,_⟩:=za9 (Ok.row' hk1 HB.o);have lb:=za2 (Ok.row' hk1 HB.o);have HK1:=hid (HK0.o.step hk1);have HA1:Hi (w1.heap[gA]?=_):=Ok.row' hk1 HA.o;have HB1:Hi (w1.heap[gB]?=_):=Ok.row' hk1 HB.o;clear hk1 HA HB HS;go_wp2_with fail;clear a0 a1 a2 b0 b1 b2 la lb;go_loopw [5] (λt wr=>∃k:Nat,t=nI (k:Nat)/\k<=n/\Hi (Ok w1 wr)) (λt _=>n-(intOf t).toNat)
 case atStart=>exact⟨0,rfl,zL_ _,Ok.refl _⟩
 obtain⟨k,rfl,hk,HK⟩:=hrel;obtain⟨_,_,a2,_⟩:=za9 (Ok.row' HK.o HA1.o);have la:=za2 (Ok.row' HK.o HA1.o);obtain⟨_,_,b2,_⟩:=za9 (Ok.row' HK.o HB1.o);have lb:=za2 (Ok.row' HK.o HB1.o);by_cases hkl:k<n
 ·have hkl':(k:Int)<(n:Int):=za5 hkl
  have hkw:IntKind.i64.wrap ((k:Int)+1)=((k+1:Nat):Int):=by rw[IntKind.wrap_i64];have:=HN.o;omega
  obtain⟨y,hy⟩:∃y,ls[k]?=some y:=⟨_,gG_ (by have:=HN.o;omega)⟩;obtain⟨p1,f1,rfl,q1,c1⟩:=(H1.o.below (HK1.o.step HK.o)).place oM;obtain⟨p2,f2,rfl,q2,c2⟩:=(H2.o.below (HK1.o.step HK.o)).place oM;have d1:=c1 (k*2) _ (zi1 ls k y hy).1;have d2:=c1 (k*2+1) _ (zi1 ls k y hy).2;have d3:=c2 (k*2) _ (zi1 ls k y hy).1;have d4:=c2 (k*2+1) _ (zi1 ls k y hy).2;rw[<-Nat.add_assoc]at d2 d4;clear c1 c2 hy;go_wp2_with fail;go_quiet (fail);go_wp2_with fail;refine⟨⟨k+1,rfl,hkl,below_drewN HK.o _⟩,?_⟩;simp only[intOf,Int.toNat_natCast];omega
 have hkl':¬(k:Int)<(n:Int):=oM;go_wp2_with fail;go_ret;exact⟨rfl,HK1.o.step HK.o⟩
end
end Go.Proofs.YtpongdpnbclchaaGreatDoor
