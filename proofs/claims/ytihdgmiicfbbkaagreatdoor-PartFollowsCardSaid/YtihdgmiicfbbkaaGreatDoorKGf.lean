import Derived.Shelf.Strconv.Clone
import Derived.Shelf.Strconv.AppendIntPublic10
import Derived.Test.YtihdgmiicfbbkaaGreatDoorProg
import Derived.Lib.ItoaLen
import Derived.Deep.CutRange
import Derived.Test.YtihdgmiicfbbkaaGreatDoorKGm
set_option linter.all false
set_option maxRecDepth 100000
namespace Go.Proofs.YtihdgmiicfbbkaaGreatDoor
variable{B k:Nat}{W w w' wr:World}{h:List Int}{l r:List UInt8}{n:Int}{v:Value}
section
open Go.Shelf
def Tryz.laysM176_ren:Go.Shelf.Ren:=⟨fun | 176=>157 | 249=>169 | 288=>180 | 283=>144 | 284=>145 | 285=>146 | 286=>147 | 129=>159 | 317=>158 | 318=>160 | 319=>161 | 320=>162 | 337=>170 | 338=>171 | n=>n,fun | 37=>236 | 2=>2 | 3=>3 | 53=>233 | 4=>4 | 9=>9 | 171=>232 | 0=>0 | 173=>237 | 212=>247 | 51=>248 | 5=>5 | 20=>20 | 213=>249 | 46=>250 | 232=>273 | 233=>274 | n=>n,fun | 17=>4 | 18=>6 | 19=>7 | n=>n⟩
theorem Tryz.laysM176:Go.Proofs.LaysM.n176 Tryz.prog Tryz.laysM176_ren:={
 mixed:=by kernel_rfl
 f129:=Tryz.func159.trans (congrArg some kR)
 f176:=Tryz.func157.trans (congrArg some kR)
 f249:=Tryz.func169.trans (congrArg some kR)
 f283:=Tryz.func144.trans (congrArg some kR)
 f284:=Tryz.func145.trans (congrArg some kR)
 f285:=Tryz.func146.trans (congrArg some kR)
 f286:=Tryz.func147.trans (congrArg some kR)
 f288:=Tryz.func180.trans (congrArg some kR)
 f317:=Tryz.func158.trans (congrArg some kR)
 f318:=Tryz.func160.trans (congrArg some kR)
 f319:=Tryz.func161.trans (congrArg some kR)
 f320:=Tryz.func162.trans (congrArg some kR)
 f337:=Tryz.func170.trans (congrArg some kR)
 f338:=Tryz.func171.trans (congrArg some kR)
 t0:=Tryz.underlying0
 a0:=Tryz.isAgg0
 z0:=Tryz.sizeOf0
 v0:=Tryz.zeroValue0
 t2:=Tryz.underlying2
 a2:=Tryz.isAgg2
 z2:=Tryz.sizeOf2
 v2:=Tryz.zeroValue2
 t3:=Tryz.underlying3
 a3:=Tryz.isAgg3
 z3:=Tryz.sizeOf3
 v3:=Tryz.zeroValue3
 t4:=Tryz.underlying4
 a4:=Tryz.isAgg4
 z4:=Tryz.sizeOf4
 v4:=Tryz.zeroValue4
 t5:=Tryz.underlying5
 a5:=Tryz.isAgg5
 z5:=Tryz.sizeOf5
 v5:=Tryz.zeroValue5
 t9:=Tryz.underlying9
 a9:=Tryz.isAgg9
 z9:=Tryz.sizeOf9
 v9:=Tryz.zeroValue9
 t20:=Tryz.underlying20
 a20:=Tryz.isAgg20
 z20:=Tryz.sizeOf20
 v20:=Tryz.zeroValue20
 t37:=Tryz.underlying236
 a37:=Tryz.isAgg236
 z37:=Tryz.sizeOf236
 v37:=Tryz.zeroValue236
 t46:=Tryz.underlying250
 a46:=Tryz.isAgg250
 z46:=Tryz.sizeOf250
 v46:=Tryz.zeroValue250
 t51:=Tryz.underlying248
 a51:=Tryz.isAgg248
 z51:=Tryz.sizeOf248
 v51:=Tryz.zeroValue248
 t53:=Tryz.underlying233
 a53:=Tryz.isAgg233
 z53:=Tryz.sizeOf233
 v53:=Tryz.zeroValue233
 t171:=Tryz.underlying232
 a171:=Tryz.isAgg232
 z171:=Tryz.sizeOf232
 v171:=Tryz.zeroValue232
 t173:=Tryz.underlying237
 a173:=Tryz.isAgg237
 z173:=Tryz.sizeOf237
 v173:=Tryz.zeroValue237
 t212:=Tryz.underlying247
 a212:=Tryz.isAgg247
 z212:=Tryz.sizeOf247
 v212:=Tryz.zeroValue247
 t213:=Tryz.underlying249
 a213:=Tryz.isAgg249
 z213:=Tryz.sizeOf249
 t232:=Tryz.underlying273
 a232:=Tryz.isAgg273
 z232:=Tryz.sizeOf273
 v232:=Tryz.zeroValue273
 t233:=Tryz.underlying274
 a233:=Tryz.isAgg274
 z233:=Tryz.sizeOf274
 v233:=Tryz.zeroValue274
 g17:=by kernel_rfl
 g18:=by kernel_rfl
 g19:=by kernel_rfl
 i0:=by kernel_rfl
 i2:=by kernel_rfl
 i3:=by kernel_rfl
 i4:=by kernel_rfl
 i5:=by kernel_rfl
 i9:=by kernel_rfl
 i20:=by kernel_rfl
 i37:=by kernel_rfl
 i46:=by kernel_rfl
 i51:=by kernel_rfl
 i53:=by kernel_rfl
 i171:=by kernel_rfl
 i173:=by kernel_rfl
 i212:=by kernel_rfl
 i232:=by kernel_rfl
 i233:=by kernel_rfl
 m17:=by kernel_rfl
 m18:=by kernel_rfl
 m19:=by kernel_rfl }
open Go.RowKit Go.Sort Go.Lib in
theorem Tryz.strconv_AppendInt_10 (B n:Nat) (i:Int) (h0 : -9223372036854775808<=i) (h1:i<=9223372036854775807) (sv:Value) (xs:List Value) (w:World) (hown:w.ownsRow B 5 1 sv n xs) (hBw:B<=w.heap.size) (hlim:n+21<=140737488355328) (htab:Lib.TabBelow Tryz.prog B w "internal/strconv.uint64pow10" .u64 Lib.pow10Tab) :
  Calls Tryz.prog 157 #[sv,nI i,nI 10] w fun e w'=>∃ v',e=.returned v'/\w'.ownsRow B 5 1 v' (n+(Lib.itoa i).length) (xs++Lib.byteCells (Lib.itoa i))/\Below B w w'/\Lib.OthersKept 5 none w w':=Any.strconv_AppendInt_10 Tryz.laysM176 B n i h0 h1 sv xs w hown hBw hlim htab
end
section
open Go.RowKit
def I64 (v:Int):Prop := -9223372036854775808<=v/\v<=9223372036854775807
structure TkB (M:Nat) (t:Tok):Prop where
 hl:t.2.1.length<=M
 ll:t.2.2.length<=M
 hi:∀ x∈t.2.1,I64 x
 li:∀ x∈t.2.2,I64 x.1/\I64 x.2
def txH (n:Int) (h:List Int) (k:Nat):List UInt8:=Lib.itoa n++spaced (wdH Lib.itoa (h.take k))
def txL (n:Int) (h:List Int) (l:List (Int×Int)) (k:Nat):List UInt8:=txH n h h.length++spaced (wdL Lib.itoa (l.take k))
theorem zR3 (n:Int) (h:List Int):txH n h 0=Lib.itoa n:=by simp [txH,wdH,spaced]
theorem zR4 {x:Int} (hx:h[k]?=some x):txH n h (k+1)=txH n h k++[32,105,102,32]++Lib.itoa x:=by unfold txH;rw [List.take_add_one,hx];simp [wdH,spaced,wIf]
theorem zR5 (n:Int) (h:List Int) (l:List (Int×Int)):txL n h l 0=txH n h h.length:=by simp [txL,wdL,spaced]
theorem zR6 {l:List (Int×Int)} {x:Int×Int} (hx:l[k]?=some x):txL n h l (k+1)=txL n h l k++[32,119,104,105,108,101,32]++Lib.itoa x.1++[32,114,111,117,110,100,32]++Lib.itoa x.2:=by unfold txL;rw [List.take_add_one,hx];simp [wdL,spaced,wWhile,wRound]
theorem zL7 {t:Tok} (hm:t.1=false):txL n t.2.1 t.2.2 t.2.2.length=txtV Lib.itoa (n,t):=by unfold txL txH txtV wdT;rw [if_neg (by simp [hm]),List.take_length,List.take_length,zT9,List.append_assoc]
theorem yg9 {t:Tok} (hm:t.1=true):txtV Lib.itoa (n,t)=Lib.itoa n++[32,109,101,114,103,101,100]:=by unfold txtV wdT;rw [if_pos hm];simp [spaced,wMerged]
theorem zL8 (hn:I64 n) (hh:∀ x∈h,I64 x):∀ k,k<=h.length->(txH n h k).length<=21+25*k
 | 0,_=>by rw [zR3];exact Lib.itoa_length_le n hn.1 hn.2
 | k+1,hk=>by have hx:h[k]?=some h[k]:=gG_ oM;have h1:=zL8 hn hh k oM;have h2:=hh _ (mG_ hx);have h3:=Lib.itoa_length_le _ h2.1 h2.2;rw [zR4 hx,List.length_append,List.length_append];simp only [List.length_cons,List.length_nil];omega
theorem zL9 {l:List (Int×Int)} (hn:I64 n) (hh:∀ x∈h,I64 x) (hl:∀ x∈l,I64 x.1/\I64 x.2):∀ k,k<=l.length->(txL n h l k).length<=21+25*h.length+56*k
 | 0,_=>by rw [zR5];exact zL8 hn hh _ (Nat.le_refl _)
 | k+1,hk=>by have hx:l[k]?=some l[k]:=gG_ oM;have h1:=zL9 hn hh hl k oM;have h2:=hl _ (mG_ hx);have h3:=Lib.itoa_length_le _ h2.1.1 h2.1.2;have h4:=Lib.itoa_length_le _ h2.2.1 h2.2.2;rw [zR6 hx];simp only [List.length_append,List.length_cons,List.length_nil];omega
theorem yD9 (a b:List UInt8):Lib.byteCells (a++b)=Lib.byteCells a++Lib.byteCells b:=by simp [Lib.byteCells]
theorem infBy:(Tryz.prog.info? 5).map (fun i=>(i.zero,i.size,i.bytes))=some (some (.int .u8 0),1,1):=by kernel_rfl
def Txt (w:World) (B:Nat) (v:Value) (l:List UInt8):Prop:=w.ownsRow B 5 1 v l.length (Lib.byteCells l)
theorem Txt.more {n:Nat} {l':List UInt8} (h:w.ownsRow B 5 1 v (l.length+n) (Lib.byteCells l++Lib.byteCells l')) (hn:n=l'.length):Txt w B v (l++l'):=by unfold Txt;rw [List.length_append,yD9,<-hn];exact h
theorem zn7 {ops:Array Oper} {o:Oper} {a:Act} {K:Act->World->Prop} {Q:Exit->Act->World->Prop} {E:Prop} (hgd:o.guard=none) (s x:Operand) (t u:TypeId)
  (ho:o.op=.call { callee:=.builtin .append,args:=#[s,x],argTypes:=#[t,u] }) (ht:Tryz.prog.underlying t=some (.slice 5)) (hu:Tryz.prog.underlying u=some .string)
  (B:Nat) (sv:Value) (l:List UInt8) (hs:a.eval s=sv) (hown:Txt w B sv l) (r:List UInt8) (hx:a.eval x=.string ⟨r.toArray⟩) (hb:l.length+r.length<=140737488355328) (hB:B<=w.heap.size)
  (h:∀ v' w',Txt w' B v' (l++r)->w.grownBy w' sv.ownBlock->K (a.put o.dst v') w') :
  if Region.wanted o (yielded ops a.tmps)=true then Oper.wp Tryz.prog o a w K Q else E:=by
 have hw:Region.wanted o (yielded ops a.tmps)=true:=by simp [Region.wanted,hgd]
 rw [if_pos hw];obtain ⟨i,hi,hz,hsi,hby⟩:=zg6 infBy;have e:(⟨r.toArray⟩:ByteArray).size=r.length:=by simp [ByteArray.size]
 obtain ⟨v',w',r1,r2,r3,_⟩:=Lib.run_append_own_string (P:=Tryz.prog) w B t u o.type 5 i ht hu hi hz hsi hby sv l.length (Lib.byteCells l) hown ⟨r.toArray⟩ (by rw [e];unfold maxLen;omega) (by rw [e];exact hb) hB;rw [Lib.strCells_toArray,e] at r2;unfold Oper.wp execOp;simp only [ho,resolve,invoke,builtin,Sem.run_bind,Sem.run_pure,Result.andThen_ok,List.map_toArray,List.map_cons,List.map_nil,hs,hx,r1];exact h v' w' (Txt.more r2 rfl) r3
theorem zl1 {ops:Array Oper} {rest:List Oper} {o:Oper} {a:Act} {Q:Exit->Act->World->Prop} (hgd:o.guard=none) (s x:Operand) (t u:TypeId)
  (ho:o.op=.call { callee:=.builtin .append,args:=#[s,x],argTypes:=#[t,u] }) (ht:Tryz.prog.underlying t=some (.slice 5)) (hu:Tryz.prog.underlying u=some .string)
  (B:Nat) (sv:Value) (l:List UInt8) (hs:a.eval s=sv) (hown:Txt w B sv l) (r:List UInt8) (hx:a.eval x=.string ⟨r.toArray⟩) (hb:l.length+r.length<=140737488355328) (hB:B<=w.heap.size)
  (h:∀ v' w',Txt w' B v' (l++r)->w.grownBy w' sv.ownBlock->wpList Tryz.prog ops Q rest (a.put o.dst v') w'):wpList Tryz.prog ops Q (o::rest) a w:=by
 obtain ⟨i,hi,hz,hsi,hby⟩:=zg6 infBy;have e:(⟨r.toArray⟩:ByteArray).size=r.length:=by simp [ByteArray.size]
 refine Lib.wpList_append_own_string w hgd s x t u ho B 5 i ht hu hi hz hsi hby sv l.length (Lib.byteCells l) hs hown ⟨r.toArray⟩ hx (by rw [e];unfold maxLen;omega) (by rw [e];exact hb) hB ?_;intro v' w' k1 k2 _;rw [Lib.strCells_toArray,e] at k1;exact h v' w' (Txt.more k1 rfl) k2
theorem zn2 (h:Txt w B v l) (i:Int) (hi:I64 i) (hB:B<=w.heap.size) (hl:l.length+21<=140737488355328) (hT:Lib.TabBelow Tryz.prog B w "internal/strconv.uint64pow10" .u64 Lib.pow10Tab) :
  Calls Tryz.prog 157 #[v,nI i,nI 10] w fun e w'=>∃ v',e=.returned v'/\Txt w' B v' (l++Lib.itoa i)/\Below B w w'/\Lib.OthersKept 5 none w w' :=
 (Tryz.strconv_AppendInt_10 B l.length i hi.1 hi.2 v _ w h hB hl hT).mono fun e w' ⟨v',h1,h2,h3,h4⟩=>⟨v',h1,Txt.more h2 rfl,h3,h4⟩
theorem Txt.others (h:Txt w B v l) (hg:w.grownBy w' v.ownBlock):Lib.OthersKept 5 none w w':=fun k o hk _ ho =>
 (hg.block k (za2 hk) fun e=>by
  rcases h.2 with ⟨rfl,_⟩ | ⟨g,cap,cur,rfl,_,hgg,_⟩
  ·cases e
  have e1:k=g:=Option.some.inj e;subst e1;rw [hgg] at hk
  injection hk with hk
  exact ho _ _ hk.symm).trans hk
theorem zn3 (h:Lib.OthersKept 5 none w w') {g:Nat} {cs:Array Value} {t:TypeId} {fz:Nat×Nat} (hr:w.heap[g]?=some (.cells cs t fz)) (ht:t≠5):w'.heap[g]?=some (.cells cs t fz):=h g _ hr sI fun c f e=>by injection e with _ e2;exact ht e2
theorem Txt.conv (h:Txt w B v l) (hp:0<l.length):(convert 236 9 v).run Tryz.prog w=.ok (.string ⟨l.toArray⟩) w:=by
 rcases h.2 with ⟨_,h0⟩ | ⟨g,cap,cur,rfl,_⟩
 ·omega
 exact run_convert_bytes_back (P:=Tryz.prog) w 236 9 5 ⟨g,0,none⟩ cap l Tryz.underlying236 Tryz.underlying5 Tryz.underlying9 (fun j hj=>World.ownsRow.cells h (g:=g) rfl j _ (by simp [Lib.byteCells,hj]))
theorem yA8 (n:Int) (h:List Int) (k:Nat):0<(txH n h k).length:=by unfold txH;have h1:=zz7.ne n;have h2:0<(Lib.itoa n).length:=List.length_pos_iff.2 h1;rw [List.length_append];omega
theorem SL.at {s:Nat} {n:Nat} {xs:List Value} (h:SL w s v n xs) (hs:0<s) (hk:k<n):∃ b o cap,v=.slice (sA b o) n cap/\b<w.heap.size/\∀ j u,xs[j]?=some u->w.cell? ⟨b,o+j,none⟩=some u:=by
 obtain ⟨_,_,ao,cap,rfl,h2⟩:=h;rcases h2 with h2 | ⟨b,o,rfl,hl,hc⟩
 ·omega
 exact ⟨b,o,cap,rfl,hl,hc⟩
theorem zk6 {l:List Int} {x:Int} (h:l[k]?=some x):(ilL l)[k]?=some (nI x):=by unfold ilL;rw [List.getElem?_map,h];rfl
structure TxI (W wr:World) (v:Value) (l:List UInt8):Prop where
 ok:Ok W wr
 own:Txt wr W.heap.size v l
theorem TxI.as (h:TxI W wr v l) (e:l=r):TxI W wr v r:=by rw [<-e];exact h
theorem TxI.alloc (h:TxI W wr v l) (o:Obj):TxI W (wr.alloc o) v l:=⟨h.ok.alloc o,World.ownsRow.alloc h.own o⟩
theorem TxI.drew (h:TxI W wr v l):TxI W wr.drew v l:=⟨Below.drew h.ok,h.own⟩
theorem TxI.str {v':Value} (h:TxI W wr v l) (h1:Txt w' W.heap.size v' (l++r)) (h2:wr.grownBy w' v.ownBlock):TxI W w' v' (l++r):=⟨h.ok.grown h2 (fun b e=>(World.ownsRow.lt h.own b e).1),h1⟩
theorem TxI.num {v':Value} (h:TxI W wr v l) (h1:Txt w' W.heap.size v' r) (h2:Below W.heap.size wr w'):TxI W w' v' r:=⟨Below.trans h.ok h2,h1⟩
set_option maxHeartbeats 8000000 in
theorem zW4 (n:Int) (hv lv:Value) (t:Tok) (w:World) (hn:I64 n) (ht:TokIs w hv lv t) (hb:TkB 100000 t) (hT:Lib.TabBelow Tryz.prog w.heap.size w "internal/strconv.uint64pow10" .u64 Lib.pow10Tab) :
  Calls Tryz.prog 143 #[nI n,.agg #[.bool t.1,hv,lv]] w fun e w'=>e=.returned (.string ⟨(txtV Lib.itoa (n,t)).toArray⟩)/\Ok w w':=by
 have HT:=hid ht;have HB:=hid hb;have HN:=hid hn;have HTB:Hi (∀ Y B,Ok w Y->w.heap.size<=B->Lib.TabBelow Tryz.prog B Y "internal/strconv.uint64pow10" .u64 Lib.pow10Tab):=fun Y B hY hB w' hw'=>hT w' (Below.trans hY (hw'.mono hB));obtain ⟨_,_,ho,hc,rfl,_⟩:=ht.hist;obtain ⟨_,_,lo,lc,rfl,_⟩:=ht.loops;obtain ⟨m,hmm⟩:=qq (t.1);obtain ⟨q,hq⟩:=qq (t.2.1.length);obtain ⟨c,hcc⟩:=qq (t.2.2.length);have HQ:Hi (m=t.1/\q=t.2.1.length/\c=t.2.2.length):=⟨hmm,hq,hcc⟩;rw [<-hq,<-hcc] at HT;rw [<-hmm,<-hq,<-hcc];clear ht hb hn hT hmm hq hcc;go_enter Tryz.func143,Tryz.ntmps143;go_wp2_with fail;obtain ⟨W,hW⟩:=qq (w.alloc (Obj.cells #[.bool m,.slice ho q hc,.slice lo c lc] 100));obtain ⟨gb,hgb⟩:=qq (w.heap.size);rw [<-hW,<-hgb];have HK:Hi (Ok w W):=by rw [hW];exact (Ok.refl w).alloc _
 have HP:Hi (W.heap[gb]?=some (.cells #[Value.bool m,Value.slice ho q hc,Value.slice lo c lc] 100 (0,0))):=by rw [hW,hgb];exact jj
 have HS:Hi (w.heap.size<=W.heap.size):=HK.o.le;clear hW hgb;have h0:Txt W W.heap.size (sZ) []:=World.ownsRow_nil _ _ _ _;refine (zn2 h0 n HN.o (nR_ _) sI (HTB.o W _ HK.o HS.o)).mono ?_;rintro e w1 ⟨v1,rfl,h1,h2,_⟩;have HI:Hi (TxI W w1 v1 (Lib.itoa n)):=⟨h2,h1⟩;clear h0 h1 h2;have HP1:Hi _:=Ok.row' HI.o.ok HP.o;obtain ⟨c0,c1,c2,c3,c4,c5⟩:=za9 HP1.o;have lgb:=za2 HP1.o;obtain ⟨vo,vc,rfl⟩:=za0 HI.o.own
 cases m with
 | true =>
  go_wp2_with (first | (at_builtin;refine zl1 rfl _ _ 236 9 rfl Tryz.underlying236 Tryz.underlying9 W.heap.size _ (Lib.itoa n) (by rfl) HI.o.own [32,109,101,114,103,101,100] (by rfl) (by have:=Lib.itoa_length_le n HN.o.1 HN.o.2;simp;omega) HI.o.ok.le ?_;intro v2 w2 k1 k2;have HI2:Hi _:=HI.o.str k1 k2;clear k1 k2;have hcv:=HI2.o.own.conv (by simp)) | fail)
  go_ret;rw [yg9 HQ.o.1.symm];exact ⟨rfl,HK.o.step HI2.o.ok⟩
 | false =>
  have HLN:Hi (∀ k,k<=q->(txH n t.2.1 k).length<=3000000):=fun k hk=>by have h1:=zL8 (h:=t.2.1) HN.o HB.o.hi k (by rw [<-HQ.o.2.1];exact hk);have h2:=HB.o.hl;have h3:=HQ.o.2.1;omega
  have HLL:Hi (∀ k,k<=c->(txL n t.2.1 t.2.2 k).length<=9000000):=fun k hk=>by have h1:=zL9 (h:=t.2.1) (l:=t.2.2) HN.o HB.o.hi HB.o.li k (by rw [<-HQ.o.2.2];exact hk);have h2:=HB.o.hl;have h4:=HB.o.ll;have h3:=HQ.o.2.2;omega
  go_wp2_with fail;go_loopw [5,20] (fun t5 t20 wr=>∃ (k:Nat),t20=nI (k:Nat)/\k<=q/\Hi (TxI W wr t5 (txH n t.2.1 k))) (fun _ t20 _=>((q:Int)-intOf t20).toNat)
  case atStart=>exact ⟨0,rfl,Nat.zero_le _,by rw [zR3];exact HI.o⟩
  clear c0 c1 c2 c3 c4 c5 lgb HP1;obtain ⟨k,rfl,hk,HR⟩:=hrel;have HP1:Hi _:=Ok.row' HR.o.ok HP.o;obtain ⟨c0,c1,c2,c3,c4,c5⟩:=za9 HP1.o;have lgb:=za2 HP1.o;by_cases hkl:k<q
  ·obtain ⟨x,hx⟩:∃ x,t.2.1[k]?=some x:=⟨_,List.getElem?_eq_getElem (by rw [<-HQ.o.2.1];exact hkl)⟩
   obtain ⟨b,o,cp,e1,e2,e3⟩:=HT.o.hist.at (by decide) (k:=k) (by rw [<-HQ.o.2.1];exact hkl)
   injection e1 with e4 e6 e5
   clear e6;subst e4 e5;have r0:wr.cell? ⟨b,o+k,none⟩=some (nI x):=(HK.o.step HR.o.ok).cell (p:=⟨b,o+k,none⟩) e2 (e3 _ _ (zk6 hx));have HX:Hi (t.2.1[k]?=some x):=hx;have HX6:Hi (I64 x):=HB.o.hi _ (mG_ hx);have hlt:(k:Int)<(q:Int):=za5 hkl;have kw:IntKind.i64.wrap ((k:Int)+1)=((k+1:Nat):Int):=zb3 (by have h1:=HB.o.hl;have h2:=HQ.o.2.1;omega);clear e2 e3 hx
   go_wp2_with (first | (at_builtin;refine zl1 rfl _ _ 236 9 rfl Tryz.underlying236 Tryz.underlying9 W.heap.size _ (txH n t.2.1 k) (by rfl) HR.o.own [32,105,102,32] (by rfl) (by have h1:=HLN.o k hk;simp;omega) HR.o.ok.le ?_;intro v2 w2 k1 k2;have HR2:Hi _:=HR.o.str k1 k2;clear k1 k2) | (go_at_call 157;refine (zn2 HR2.o.own x HX6.o HR2.o.ok.le (by have h1:=HLN.o k hk;simp;omega) (HTB.o _ _ (HK.o.step HR2.o.ok) HS.o)).mono ?_;rintro e w3 ⟨v3,rfl,k1,k2,_⟩;have HR3:Hi _:=HR2.o.num k1 k2;clear k1 k2) | fail)
   go_roundw
   case rel=>exact ⟨k+1,rfl,hkl,by rw [zR4 HX.o];exact HR3.o⟩
   case measure=>exact meas hkl
  have hlt:¬(k:Int)<(q:Int):=zb2 hkl;have HE:Hi _:=HR.o.as (show txH n t.2.1 k=txL n t.2.1 t.2.2 0 by rw [zR5,<-HQ.o.2.1,show q=k by omega]);go_wp2_with fail;obtain ⟨W3,hW3⟩:=qq (wr);subst hW3;go_loopw [5,32] (fun t5 t32 wr=>∃ (k:Nat),t32=nI (k:Nat)/\k<=c/\Hi (TxI W wr t5 (txL n t.2.1 t.2.2 k))) (fun _ t32 _=>((c:Int)-intOf t32).toNat)
  case atStart=>exact ⟨0,rfl,zL_ _,HE⟩
  clear c0 c1 c2 c3 c4 c5 lgb HP1 HE hlt hkl HR hk;obtain ⟨k,rfl,hk,HR⟩:=hrel;have HP1:Hi _:=Ok.row' HR.o.ok HP.o;obtain ⟨c0,c1,c2,c3,c4,c5⟩:=za9 HP1.o;have lgb:=za2 HP1.o;by_cases hkl:k<c
  ·obtain ⟨x,hx⟩:∃ x,t.2.2[k]?=some x:=⟨_,List.getElem?_eq_getElem (by rw [<-HQ.o.2.2];exact hkl)⟩
   obtain ⟨b,o,cp,e1,e2,e3⟩:=HT.o.loops.at (by decide) (k:=k) (by rw [<-HQ.o.2.2];exact hkl)
   injection e1 with e4 e6 e5
   clear e6;subst e4 e5;have r0:wr.cell? ⟨b,o+k*2,none⟩=some (nI x.1):=(HK.o.step HR.o.ok).cell (p:=⟨b,o+k*2,none⟩) e2 (e3 _ _ (zi1 _ _ _ hx).1);have r1:wr.cell? ⟨b,o+k*2+1,none⟩=some (nI x.2):=(HK.o.step HR.o.ok).cell (p:=⟨b,o+k*2+1,none⟩) e2 (e3 (k*2+1) _ (zi1 _ _ _ hx).2);have HX:Hi (t.2.2[k]?=some x):=hx;have HX6:Hi (I64 x.1/\I64 x.2):=HB.o.li _ (mG_ hx);have hlt:(k:Int)<(c:Int):=za5 hkl;have kw:IntKind.i64.wrap ((k:Int)+1)=((k+1:Nat):Int):=zb3 (by have h1:=HB.o.ll;have h2:=HQ.o.2.2;omega);clear e2 e3 hx
   go_upto_region 12 with (fail)
   obtain ⟨Y,hY⟩:=qq (wr.alloc (Obj.cells #[nI x.1,nI x.2] 149));obtain ⟨g9,hg9⟩:=qq (wr.heap.size);rw [<-hY,<-hg9];have HY:Hi (Y.heap[g9]?=some (.cells #[nI x.1,nI x.2] 149 (0,0))):=by rw [hY,hg9];exact jj
   have HRY:Hi _:=HR.o.alloc (Obj.cells #[nI x.1,nI x.2] 149);rw [<-hY] at HRY;clear hY hg9 c0 c1 c2 c3 c4 c5 lgb r0 r1;obtain ⟨d0,d1,d2,d3⟩:=zd1 HY.o;have HD2:Hi _:=HRY.o.drew;have HYD2:Hi (Y.drew.heap[g9]?=some (.cells #[nI x.1,nI x.2] 149 (0,0))):=HY.o
   go_region_held3 (fun w'=>w'.cell? (aD g9 0)=some (nI x.1)) (go_keep) (first | (refine zn7 (by rfl) _ _ 236 9 (by rfl) Tryz.underlying236 Tryz.underlying9 W.heap.size _ (txL n t.2.1 t.2.2 k) (by rfl) HD2.o.own [32,119,104,105,108,101,32] (by rfl) (by have h1:=HLL.o k hk;have h2:=Lib.itoa_length_le _ HX6.o.1.1 HX6.o.1.2;simp;omega) HD2.o.ok.le ?_;intro v2 w2 k1 k2;have HR2:Hi _:=HD2.o.str k1 k2;have HY2:Hi _:=zn3 (HD2.o.own.others k2) HYD2.o (by decide);clear k1 k2 d0 d1 d2 d3;obtain ⟨d0,d1,d2,d3⟩:=zd1 HY2.o) | (go_at_call 157;refine (zn2 HR2.o.own x.1 HX6.o.1 HR2.o.ok.le (by have h1:=HLL.o k hk;have h2:=Lib.itoa_length_le _ HX6.o.1.1 HX6.o.1.2;simp;omega) (HTB.o _ _ (HK.o.step HR2.o.ok) HS.o)).mono ?_;rintro e w3 ⟨v3,rfl,k1,k2,k3⟩;have HR3:Hi _:=HR2.o.num k1 k2;have HY3:Hi _:=zn3 k3 HY2.o (by decide);clear k1 k2 k3 d0 d1 d2 d3;obtain ⟨d0,d1,d2,d3⟩:=zd1 HY3.o) | fail)
   go_upto_region 13 with (fail)
   have HD4:Hi _:=HR3.o.drew;have HYD4:Hi (w3.drew.heap[g9]?=some (.cells #[nI x.1,nI x.2] 149 (0,0))):=HY3.o
   go_region_held3 (fun w'=>w'.cell? (aD g9 1)=some (nI x.2)) (go_keep) (first | (refine zn7 (by rfl) _ _ 236 9 (by rfl) Tryz.underlying236 Tryz.underlying9 W.heap.size _ ((txL n t.2.1 t.2.2 k++[32,119,104,105,108,101,32])++Lib.itoa x.1) (by rfl) HD4.o.own [32,114,111,117,110,100,32] (by rfl) (by have h1:=HLL.o k hk;have h2:=Lib.itoa_length_le _ HX6.o.1.1 HX6.o.1.2;simp;omega) HD4.o.ok.le ?_;intro v4 w4 k1 k2;have HR4:Hi _:=HD4.o.str k1 k2;have HY4:Hi _:=zn3 (HD4.o.own.others k2) HYD4.o (by decide);clear k1 k2 d0 d1 d2 d3;obtain ⟨d0,d1,d2,d3⟩:=zd1 HY4.o) | (go_at_call 157;refine (zn2 HR4.o.own x.2 HX6.o.2 HR4.o.ok.le (by have h1:=HLL.o k hk;have h2:=Lib.itoa_length_le _ HX6.o.1.1 HX6.o.1.2;simp;omega) (HTB.o _ _ (HK.o.step HR4.o.ok) HS.o)).mono ?_;rintro e w5 ⟨v5,rfl,k1,k2,k3⟩;have HR5:Hi _:=HR4.o.num k1 k2;have HY5:Hi _:=zn3 k3 HY4.o (by decide);clear k1 k2 k3 d0 d1 d2 d3;obtain ⟨d0,d1,d2,d3⟩:=zd1 HY5.o) | fail)
   go_wp2_with fail;go_roundw
   case rel=>exact ⟨k+1,rfl,hkl,by rw [zR6 HX.o];exact HR5.o⟩
   case measure=>exact meas hkl
  have hlt:¬(k:Int)<(c:Int):=zb2 hkl;have HE:Hi _:=HR.o.as (show txL n t.2.1 t.2.2 k=txtV Lib.itoa (n,t) by rw [<-zL7 HQ.o.1.symm,<-HQ.o.2.2,show c=k by omega]);have hcv:=HE.o.own.conv (by rw [<-zL7 HQ.o.1.symm];unfold txL;rw [List.length_append];have:=yA8 n t.2.1 t.2.1.length;omega);go_wp2_with fail;go_ret;exact ⟨rfl,HK.o.step HE.o.ok⟩
end
end Go.Proofs.YtihdgmiicfbbkaaGreatDoor
