import Derived.Shelf.Strconv.AppendIntPublic10
import Derived.Lib.ItoaLen
import Derived.Deep.CutRange
import Derived.Shelf.Strconv.Itoa3
import Derived.Test.YtbneneijdgcccaaGreatDoorKGb
set_option maxHeartbeats 8000000
set_option linter.all false
set_option maxRecDepth 100000
namespace Go.Proofs.YtbneneijdgcccaaGreatDoor
section
open Go.Shelf
def Tryz.laysM176_ren:Go.Shelf.Ren:=⟨fun | 176=>155 | 249=>164 | 288=>173 | 283=>98 | 284=>99 | 285=>100 | 286=>101 | 129=>138 | 317=>137 | 318=>139 | 319=>140 | 320=>141 | 337=>156 | 338=>157 | n=>n,fun | 37=>214 | 2=>2 | 3=>3 | 53=>211 | 4=>4 | 9=>9 | 171=>210 | 0=>0 | 173=>215 | 212=>234 | 51=>235 | 5=>5 | 20=>20 | 213=>236 | 46=>237 | 232=>263 | 233=>264 | n=>n,fun | 17=>4 | 18=>6 | 19=>7 | n=>n⟩
theorem Tryz.laysM176:Go.Proofs.LaysM.n176 Tryz.prog Tryz.laysM176_ren:={
 mixed:=by kernel_rfl
 f129:=Tryz.func138.trans (congrArg some (by kernel_rfl))
 f176:=Tryz.func155.trans (congrArg some (by kernel_rfl))
 f249:=Tryz.func164.trans (congrArg some (by kernel_rfl))
 f283:=Tryz.func98.trans (congrArg some (by kernel_rfl))
 f284:=Tryz.func99.trans (congrArg some (by kernel_rfl))
 f285:=Tryz.func100.trans (congrArg some (by kernel_rfl))
 f286:=Tryz.func101.trans (congrArg some (by kernel_rfl))
 f288:=Tryz.func173.trans (congrArg some (by kernel_rfl))
 f317:=Tryz.func137.trans (congrArg some (by kernel_rfl))
 f318:=Tryz.func139.trans (congrArg some (by kernel_rfl))
 f319:=Tryz.func140.trans (congrArg some (by kernel_rfl))
 f320:=Tryz.func141.trans (congrArg some (by kernel_rfl))
 f337:=Tryz.func156.trans (congrArg some (by kernel_rfl))
 f338:=Tryz.func157.trans (congrArg some (by kernel_rfl))
 t0:=Tryz.underlying0
 a0:=Tryz.isAgg0
 z0:=Tryz.sizeOf0
 v0:=Tryz.zeroValue0
 t2:=Tryz.underlying2
 a2:=Tryz.isAgg2
 z2:=Tryz.sizeOf2
 v2:=Tryz.zeroValue2
 t3:=Tryz.underlying3
 a3:=Tryz.isAgg3
 z3:=Tryz.sizeOf3
 v3:=Tryz.zeroValue3
 t4:=Tryz.underlying4
 a4:=Tryz.isAgg4
 z4:=Tryz.sizeOf4
 v4:=Tryz.zeroValue4
 t5:=Tryz.underlying5
 a5:=Tryz.isAgg5
 z5:=Tryz.sizeOf5
 v5:=Tryz.zeroValue5
 t9:=Tryz.underlying9
 a9:=Tryz.isAgg9
 z9:=Tryz.sizeOf9
 v9:=Tryz.zeroValue9
 t20:=Tryz.underlying20
 a20:=Tryz.isAgg20
 z20:=Tryz.sizeOf20
 v20:=Tryz.zeroValue20
 t37:=Tryz.underlying214
 a37:=Tryz.isAgg214
 z37:=Tryz.sizeOf214
 v37:=Tryz.zeroValue214
 t46:=Tryz.underlying237
 a46:=Tryz.isAgg237
 z46:=Tryz.sizeOf237
 v46:=Tryz.zeroValue237
 t51:=Tryz.underlying235
 a51:=Tryz.isAgg235
 z51:=Tryz.sizeOf235
 v51:=Tryz.zeroValue235
 t53:=Tryz.underlying211
 a53:=Tryz.isAgg211
 z53:=Tryz.sizeOf211
 v53:=Tryz.zeroValue211
 t171:=Tryz.underlying210
 a171:=Tryz.isAgg210
 z171:=Tryz.sizeOf210
 v171:=Tryz.zeroValue210
 t173:=Tryz.underlying215
 a173:=Tryz.isAgg215
 z173:=Tryz.sizeOf215
 v173:=Tryz.zeroValue215
 t212:=Tryz.underlying234
 a212:=Tryz.isAgg234
 z212:=Tryz.sizeOf234
 v212:=Tryz.zeroValue234
 t213:=Tryz.underlying236
 a213:=Tryz.isAgg236
 z213:=Tryz.sizeOf236
 t232:=Tryz.underlying263
 a232:=Tryz.isAgg263
 z232:=Tryz.sizeOf263
 v232:=Tryz.zeroValue263
 t233:=Tryz.underlying264
 a233:=Tryz.isAgg264
 z233:=Tryz.sizeOf264
 v233:=Tryz.zeroValue264
 g17:=by kernel_rfl
 g18:=by kernel_rfl
 g19:=by kernel_rfl
 i0:=by kernel_rfl
 i2:=by kernel_rfl
 i3:=by kernel_rfl
 i4:=by kernel_rfl
 i5:=by kernel_rfl
 i9:=by kernel_rfl
 i20:=by kernel_rfl
 i37:=by kernel_rfl
 i46:=by kernel_rfl
 i51:=by kernel_rfl
 i53:=by kernel_rfl
 i171:=by kernel_rfl
 i173:=by kernel_rfl
 i212:=by kernel_rfl
 i232:=by kernel_rfl
 i233:=by kernel_rfl
 m17:=by kernel_rfl
 m18:=by kernel_rfl
 m19:=by kernel_rfl }
open Go.RowKit Go.Sort Go.Lib in
theorem Tryz.strconv_AppendInt_10 (B n:Nat) (i:Int) (h0 : -9223372036854775808<=i) (h1:i<=9223372036854775807) (sv:Value) (xs:List Value) (w:World) (hown:w.ownsRow B 5 1 sv n xs) (hBw:B<=w.heap.size) (hlim:n+21<=140737488355328) (htab:Lib.TabBelow Tryz.prog B w "internal/strconv.uint64pow10" .u64 Lib.pow10Tab) :
  Calls Tryz.prog 155 #[sv,.int .i64 i,.int .i64 10] w fun e w'=>∃ v',e=.returned v'/\w'.ownsRow B 5 1 v' (n+(Lib.itoa i).length) (xs++Lib.byteCells (Lib.itoa i))/\Below B w w'/\Lib.OthersKept 5 none w w':=Any.strconv_AppendInt_10 Tryz.laysM176 B n i h0 h1 sv xs w hown hBw hlim htab
end
section
open Go.RowKit
def I64 (v:Int):Prop := -9223372036854775808<=v/\v<=9223372036854775807
structure TkB (M:Nat) (t:Tok):Prop where
 hl:t.2.1.length<=M
 ll:t.2.2.length<=M
 hi:∀ x∈t.2.1,I64 x
 li:∀ x∈t.2.2,I64 x.1/\I64 x.2
def txH (n:Int) (h:List Int) (k:Nat):List UInt8:=Lib.itoa n++spaced (wdH Lib.itoa (h.take k))
def txL (n:Int) (h:List Int) (l:List (Int×Int)) (k:Nat):List UInt8:=txH n h h.length++spaced (wdL Lib.itoa (l.take k))
theorem zR3 (n:Int) (h:List Int):txH n h 0=Lib.itoa n:=by simp [txH,wdH,spaced]
theorem zR4 {n:Int} {h:List Int} {k:Nat} {x:Int} (hx:h[k]?=some x):txH n h (k+1)=txH n h k++[32,105,102,32]++Lib.itoa x:=by
 unfold txH
 rw [List.take_add_one,hx]
 simp [wdH,spaced,wIf]
theorem zR5 (n:Int) (h:List Int) (l:List (Int×Int)):txL n h l 0=txH n h h.length:=by simp [txL,wdL,spaced]
theorem zR6 {n:Int} {h:List Int} {l:List (Int×Int)} {k:Nat} {x:Int×Int} (hx:l[k]?=some x):txL n h l (k+1)=txL n h l k++[32,119,104,105,108,101,32]++Lib.itoa x.1++[32,114,111,117,110,100,32]++Lib.itoa x.2:=by
 unfold txL
 rw [List.take_add_one,hx]
 simp [wdL,spaced,wWhile,wRound]
theorem zL7 {n:Int} {t:Tok} (hm:t.1=false):txL n t.2.1 t.2.2 t.2.2.length=txtV Lib.itoa (n,t):=by
 unfold txL txH txtV wdT
 rw [if_neg (by simp [hm]),List.take_length,List.take_length,zT9,List.append_assoc]
theorem yg9 {n:Int} {t:Tok} (hm:t.1=true):txtV Lib.itoa (n,t)=Lib.itoa n++[32,109,101,114,103,101,100]:=by
 unfold txtV wdT
 rw [if_pos hm]
 simp [spaced,wMerged]
theorem zL8 {n:Int} {h:List Int} (hn:I64 n) (hh:∀ x∈h,I64 x):∀ k,k<=h.length->(txH n h k).length<=21+25*k
 | 0,_=>by rw [zR3];exact Lib.itoa_length_le n hn.1 hn.2
 | k+1,hk=>by
  have hx:h[k]?=some h[k]:=List.getElem?_eq_getElem (by omega)
  have h1:=zL8 hn hh k (by omega)
  have h2:=hh _ (List.mem_of_getElem? hx)
  have h3:=Lib.itoa_length_le _ h2.1 h2.2
  rw [zR4 hx,List.length_append,List.length_append]
  simp only [List.length_cons,List.length_nil]
  omega
theorem zL9 {n:Int} {h:List Int} {l:List (Int×Int)} (hn:I64 n) (hh:∀ x∈h,I64 x) (hl:∀ x∈l,I64 x.1/\I64 x.2):∀ k,k<=l.length->(txL n h l k).length<=21+25*h.length+56*k
 | 0,_=>by rw [zR5];exact zL8 hn hh _ (Nat.le_refl _)
 | k+1,hk=>by
  have hx:l[k]?=some l[k]:=List.getElem?_eq_getElem (by omega)
  have h1:=zL9 hn hh hl k (by omega)
  have h2:=hl _ (List.mem_of_getElem? hx)
  have h3:=Lib.itoa_length_le _ h2.1.1 h2.1.2
  have h4:=Lib.itoa_length_le _ h2.2.1 h2.2.2
  rw [zR6 hx]
  simp only [List.length_append,List.length_cons,List.length_nil]
  omega
theorem yD9 (a b:List UInt8):Lib.byteCells (a++b)=Lib.byteCells a++Lib.byteCells b:=by simp [Lib.byteCells]
theorem infBy:(Tryz.prog.info? 5).map (fun i=>(i.zero,i.size,i.bytes))=some (some (.int .u8 0),1,1):=by kernel_rfl
def Txt (w:World) (B:Nat) (v:Value) (l:List UInt8):Prop:=w.ownsRow B 5 1 v l.length (Lib.byteCells l)
theorem Txt.more {w:World} {B n:Nat} {v:Value} {l l':List UInt8} (h:w.ownsRow B 5 1 v (l.length+n) (Lib.byteCells l++Lib.byteCells l')) (hn:n=l'.length):Txt w B v (l++l'):=by
 unfold Txt
 rw [List.length_append,yD9,<-hn]
 exact h
theorem zn7 {w:World} {ops:Array Oper} {o:Oper} {a:Act} {K:Act->World->Prop} {Q:Exit->Act->World->Prop} {E:Prop} (hgd:o.guard=none) (s x:Operand) (t u:TypeId)
  (ho:o.op=.call { callee:=.builtin .append,args:=#[s,x],argTypes:=#[t,u] }) (ht:Tryz.prog.underlying t=some (.slice 5)) (hu:Tryz.prog.underlying u=some .string)
  (B:Nat) (sv:Value) (l:List UInt8) (hs:a.eval s=sv) (hown:Txt w B sv l) (r:List UInt8) (hx:a.eval x=.string ⟨r.toArray⟩) (hb:l.length+r.length<=140737488355328) (hB:B<=w.heap.size)
  (h:∀ v' w',Txt w' B v' (l++r)->w.grownBy w' sv.ownBlock->K (a.put o.dst v') w') :
  if Region.wanted o (yielded ops a.tmps)=true then Oper.wp Tryz.prog o a w K Q else E:=by
 have hw:Region.wanted o (yielded ops a.tmps)=true:=by simp [Region.wanted,hgd]
 rw [if_pos hw]
 obtain ⟨i,hi,hz,hsi,hby⟩:=zg6 infBy
 have e:(⟨r.toArray⟩:ByteArray).size=r.length:=by simp [ByteArray.size]
 obtain ⟨v',w',r1,r2,r3,_⟩:=Lib.run_append_own_string (P:=Tryz.prog) w B t u o.type 5 i ht hu hi hz hsi hby sv l.length (Lib.byteCells l) hown ⟨r.toArray⟩ (by rw [e];unfold maxLen;omega) (by rw [e];exact hb) hB
 rw [Lib.strCells_toArray,e] at r2
 unfold Oper.wp execOp
 simp only [ho,resolve,invoke,builtin,Sem.run_bind,Sem.run_pure,Result.andThen_ok,List.map_toArray,List.map_cons,List.map_nil,hs,hx,r1]
 exact h v' w' (Txt.more r2 rfl) r3
theorem zl1 {w:World} {ops:Array Oper} {rest:List Oper} {o:Oper} {a:Act} {Q:Exit->Act->World->Prop} (hgd:o.guard=none) (s x:Operand) (t u:TypeId)
  (ho:o.op=.call { callee:=.builtin .append,args:=#[s,x],argTypes:=#[t,u] }) (ht:Tryz.prog.underlying t=some (.slice 5)) (hu:Tryz.prog.underlying u=some .string)
  (B:Nat) (sv:Value) (l:List UInt8) (hs:a.eval s=sv) (hown:Txt w B sv l) (r:List UInt8) (hx:a.eval x=.string ⟨r.toArray⟩) (hb:l.length+r.length<=140737488355328) (hB:B<=w.heap.size)
  (h:∀ v' w',Txt w' B v' (l++r)->w.grownBy w' sv.ownBlock->wpList Tryz.prog ops Q rest (a.put o.dst v') w'):wpList Tryz.prog ops Q (o::rest) a w:=by
 obtain ⟨i,hi,hz,hsi,hby⟩:=zg6 infBy
 have e:(⟨r.toArray⟩:ByteArray).size=r.length:=by simp [ByteArray.size]
 refine Lib.wpList_append_own_string w hgd s x t u ho B 5 i ht hu hi hz hsi hby sv l.length (Lib.byteCells l) hs hown ⟨r.toArray⟩ hx (by rw [e];unfold maxLen;omega) (by rw [e];exact hb) hB ?_
 intro v' w' k1 k2 _
 rw [Lib.strCells_toArray,e] at k1
 exact h v' w' (Txt.more k1 rfl) k2
theorem zn2 {w:World} {B:Nat} {v:Value} {l:List UInt8} (h:Txt w B v l) (i:Int) (hi:I64 i) (hB:B<=w.heap.size) (hl:l.length+21<=140737488355328) (hT:Lib.TabBelow Tryz.prog B w "internal/strconv.uint64pow10" .u64 Lib.pow10Tab) :
  Calls Tryz.prog 155 #[v,.int .i64 i,.int .i64 10] w fun e w'=>∃ v',e=.returned v'/\Txt w' B v' (l++Lib.itoa i)/\Below B w w'/\Lib.OthersKept 5 none w w' :=
 (Tryz.strconv_AppendInt_10 B l.length i hi.1 hi.2 v _ w h hB hl hT).mono fun e w' ⟨v',h1,h2,h3,h4⟩=>⟨v',h1,Txt.more h2 rfl,h3,h4⟩
theorem Txt.others {w w':World} {B:Nat} {v:Value} {l:List UInt8} (h:Txt w B v l) (hg:w.grownBy w' v.ownBlock):Lib.OthersKept 5 none w w':=fun k o hk _ ho =>
 (hg.block k (za2 hk) fun e=>by
  rcases h.2 with ⟨rfl,_⟩ | ⟨g,cap,cur,rfl,_,hgg,_⟩
  ·cases e
  have e1:k=g:=Option.some.inj e
  subst e1
  rw [hgg] at hk
  injection hk with hk
  exact ho _ _ hk.symm).trans hk
theorem zn3 {w w':World} (h:Lib.OthersKept 5 none w w') {g:Nat} {cs:Array Value} {t:TypeId} {fz:Nat×Nat} (hr:w.heap[g]?=some (.cells cs t fz)) (ht:t≠5):w'.heap[g]?=some (.cells cs t fz):=h g _ hr (by simp) fun c f e=>by injection e with _ e2;exact ht e2
theorem Txt.conv {w:World} {B:Nat} {v:Value} {l:List UInt8} (h:Txt w B v l) (hp:0<l.length):(convert 214 9 v).run Tryz.prog w=.ok (.string ⟨l.toArray⟩) w:=by
 rcases h.2 with ⟨_,h0⟩ | ⟨g,cap,cur,rfl,_⟩
 ·omega
 exact run_convert_bytes_back (P:=Tryz.prog) w 214 9 5 ⟨g,0,none⟩ cap l Tryz.underlying214 Tryz.underlying5 Tryz.underlying9 (fun j hj=>World.ownsRow.cells h (g:=g) rfl j _ (by simp [Lib.byteCells,hj]))
theorem yA8 (n:Int) (h:List Int) (k:Nat):0<(txH n h k).length:=by
 unfold txH
 have h1:=zz7.ne n
 have h2:0<(Lib.itoa n).length:=List.length_pos_iff.2 h1
 rw [List.length_append]
 omega
theorem SL.at {w:World} {s:Nat} {v:Value} {n:Nat} {xs:List Value} (h:SL w s v n xs) (hs:0<s) {k:Nat} (hk:k<n):∃ b o cap,v=.slice (some ⟨b,o,none⟩) n cap/\b<w.heap.size/\∀ j u,xs[j]?=some u->w.cell? ⟨b,o+j,none⟩=some u:=by
 obtain ⟨_,_,ao,cap,rfl,h2⟩:=h
 rcases h2 with h2 | ⟨b,o,rfl,hl,hc⟩
 ·omega
 exact ⟨b,o,cap,rfl,hl,hc⟩
theorem zk6 {l:List Int} {k:Nat} {x:Int} (h:l[k]?=some x):(ilL l)[k]?=some (.int .i64 x):=by unfold ilL;rw [List.getElem?_map,h];rfl
structure TxI (W wr:World) (v:Value) (l:List UInt8):Prop where
 ok:Ok W wr
 own:Txt wr W.heap.size v l
theorem TxI.as {W wr:World} {v:Value} {l r:List UInt8} (h:TxI W wr v l) (e:l=r):TxI W wr v r:=by rw [<-e];exact h
theorem TxI.alloc {W wr:World} {v:Value} {l:List UInt8} (h:TxI W wr v l) (o:Obj):TxI W (wr.alloc o) v l:=⟨h.ok.alloc o,World.ownsRow.alloc h.own o⟩
theorem TxI.drew {W wr:World} {v:Value} {l:List UInt8} (h:TxI W wr v l):TxI W wr.drew v l:=⟨Below.drew h.ok,h.own⟩
theorem TxI.str {W wr w':World} {v v':Value} {l r:List UInt8} (h:TxI W wr v l) (h1:Txt w' W.heap.size v' (l++r)) (h2:wr.grownBy w' v.ownBlock):TxI W w' v' (l++r):=⟨h.ok.grown h2 (fun b e=>(World.ownsRow.lt h.own b e).1),h1⟩
theorem TxI.num {W wr w':World} {v v':Value} {l r:List UInt8} (h:TxI W wr v l) (h1:Txt w' W.heap.size v' r) (h2:Below W.heap.size wr w'):TxI W w' v' r:=⟨Below.trans h.ok h2,h1⟩
theorem zW4 (n:Int) (hv lv:Value) (t:Tok) (w:World) (hn:I64 n) (ht:TokIs w hv lv t) (hb:TkB 100000 t) (hT:Lib.TabBelow Tryz.prog w.heap.size w "internal/strconv.uint64pow10" .u64 Lib.pow10Tab) :
  Calls Tryz.prog 136 #[.int .i64 n,.agg #[.bool t.1,hv,lv]] w fun e w'=>e=.returned (.string ⟨(txtV Lib.itoa (n,t)).toArray⟩)/\Ok w w':=by
 have HT:=hid ht
 have HB:=hid hb
 have HN:=hid hn
 have HTB:Hi (∀ Y B,Ok w Y->w.heap.size<=B->Lib.TabBelow Tryz.prog B Y "internal/strconv.uint64pow10" .u64 Lib.pow10Tab):=fun Y B hY hB w' hw'=>hT w' (Below.trans hY (hw'.mono hB))
 obtain ⟨_,_,ho,hc,rfl,_⟩:=ht.hist
 obtain ⟨_,_,lo,lc,rfl,_⟩:=ht.loops
 obtain ⟨m,hmm⟩:=qq (t.1)
 obtain ⟨q,hq⟩:=qq (t.2.1.length)
 obtain ⟨c,hcc⟩:=qq (t.2.2.length)
 have HQ:Hi (m=t.1/\q=t.2.1.length/\c=t.2.2.length):=⟨hmm,hq,hcc⟩
 rw [<-hq,<-hcc] at HT
 rw [<-hmm,<-hq,<-hcc]
 clear ht hb hn hT hmm hq hcc
 go_enter Tryz.func136,Tryz.ntmps136
 go_wp2_with fail
 obtain ⟨W,hW⟩:=qq (w.alloc (Obj.cells #[.bool m,.slice ho q hc,.slice lo c lc] 50))
 obtain ⟨gb,hgb⟩:=qq (w.heap.size)
 rw [<-hW,<-hgb]
 have HK:Hi (Ok w W):=by rw [hW];exact (Ok.refl w).alloc _
 have HP:Hi (W.heap[gb]?=some (.cells #[Value.bool m,Value.slice ho q hc,Value.slice lo c lc] 50 (0,0))):=by rw [hW,hgb];exact jj
 have HS:Hi (w.heap.size<=W.heap.size):=HK.o.le
 clear hW hgb
 have h0:Txt W W.heap.size (.slice none 0 0) []:=World.ownsRow_nil _ _ _ _
 refine (zn2 h0 n HN.o (Nat.le_refl _) (by simp) (HTB.o W _ HK.o HS.o)).mono ?_
 rintro e w1 ⟨v1,rfl,h1,h2,_⟩
 have HI:Hi (TxI W w1 v1 (Lib.itoa n)):=⟨h2,h1⟩
 clear h0 h1 h2
 have HP1:Hi _:=Ok.row' HI.o.ok HP.o
 obtain ⟨c0,c1,c2,c3,c4,c5⟩:=za9 HP1.o
 have lgb:=za2 HP1.o
 obtain ⟨vo,vc,rfl⟩:=za0 HI.o.own
 cases m with
 | true =>
  go_wp2_with (first | (at_builtin;refine zl1 rfl _ _ 214 9 rfl Tryz.underlying214 Tryz.underlying9 W.heap.size _ (Lib.itoa n) (by rfl) HI.o.own [32,109,101,114,103,101,100] (by rfl) (by have:=Lib.itoa_length_le n HN.o.1 HN.o.2;simp;omega) HI.o.ok.le ?_;intro v2 w2 k1 k2;have HI2:Hi _:=HI.o.str k1 k2;clear k1 k2;have hcv:=HI2.o.own.conv (by simp)) | fail)
  go_ret
  rw [yg9 HQ.o.1.symm]
  exact ⟨rfl,HK.o.step HI2.o.ok⟩
 | false =>
  have HLN:Hi (∀ k,k<=q->(txH n t.2.1 k).length<=3000000):=fun k hk=>by
   have h1:=zL8 (h:=t.2.1) HN.o HB.o.hi k (by rw [<-HQ.o.2.1];exact hk)
   have h2:=HB.o.hl
   have h3:=HQ.o.2.1
   omega
  have HLL:Hi (∀ k,k<=c->(txL n t.2.1 t.2.2 k).length<=9000000):=fun k hk=>by
   have h1:=zL9 (h:=t.2.1) (l:=t.2.2) HN.o HB.o.hi HB.o.li k (by rw [<-HQ.o.2.2];exact hk)
   have h2:=HB.o.hl
   have h4:=HB.o.ll
   have h3:=HQ.o.2.2
   omega
  go_wp2_with fail
  go_loopw [5,20] (fun t5 t20 wr=>∃ (k:Nat),t20=.int .i64 (k:Nat)/\k<=q/\Hi (TxI W wr t5 (txH n t.2.1 k))) (fun _ t20 _=>((q:Int)-intOf t20).toNat)
  case atStart=>exact ⟨0,rfl,Nat.zero_le _,by rw [zR3];exact HI.o⟩
  clear c0 c1 c2 c3 c4 c5 lgb HP1
  obtain ⟨k,rfl,hk,HR⟩:=hrel
  have HP1:Hi _:=Ok.row' HR.o.ok HP.o
  obtain ⟨c0,c1,c2,c3,c4,c5⟩:=za9 HP1.o
  have lgb:=za2 HP1.o
  by_cases hkl:k<q
  ·obtain ⟨x,hx⟩:∃ x,t.2.1[k]?=some x:=⟨_,List.getElem?_eq_getElem (by rw [<-HQ.o.2.1];exact hkl)⟩
   obtain ⟨b,o,cp,e1,e2,e3⟩:=HT.o.hist.at (by decide) (k:=k) (by rw [<-HQ.o.2.1];exact hkl)
   injection e1 with e4 e6 e5
   clear e6;subst e4 e5
   have r0:wr.cell? ⟨b,o+k,none⟩=some (.int .i64 x):=(HK.o.step HR.o.ok).cell (p:=⟨b,o+k,none⟩) e2 (e3 _ _ (zk6 hx))
   have HX:Hi (t.2.1[k]?=some x):=hx
   have HX6:Hi (I64 x):=HB.o.hi _ (List.mem_of_getElem? hx)
   have hlt:(k:Int)<(q:Int):=za5 hkl
   have kw:IntKind.i64.wrap ((k:Int)+1)=((k+1:Nat):Int):=zb3 (by have h1:=HB.o.hl;have h2:=HQ.o.2.1;omega)
   clear e2 e3 hx
   go_wp2_with (first | (at_builtin;refine zl1 rfl _ _ 214 9 rfl Tryz.underlying214 Tryz.underlying9 W.heap.size _ (txH n t.2.1 k) (by rfl) HR.o.own [32,105,102,32] (by rfl) (by have h1:=HLN.o k hk;simp;omega) HR.o.ok.le ?_;intro v2 w2 k1 k2;have HR2:Hi _:=HR.o.str k1 k2;clear k1 k2) | (go_at_call 155;refine (zn2 HR2.o.own x HX6.o HR2.o.ok.le (by have h1:=HLN.o k hk;simp;omega) (HTB.o _ _ (HK.o.step HR2.o.ok) HS.o)).mono ?_;rintro e w3 ⟨v3,rfl,k1,k2,_⟩;have HR3:Hi _:=HR2.o.num k1 k2;clear k1 k2) | fail)
   go_roundw
   case rel=>exact ⟨k+1,rfl,hkl,by rw [zR4 HX.o];exact HR3.o⟩
   case measure=>exact meas hkl
  have hlt:¬(k:Int)<(q:Int):=zb2 hkl
  have HE:Hi _:=HR.o.as (show txH n t.2.1 k=txL n t.2.1 t.2.2 0 by rw [zR5,<-HQ.o.2.1,show q=k by omega])
  go_wp2_with fail
  obtain ⟨W3,hW3⟩:=qq (wr)
  subst hW3
  go_loopw [5,32] (fun t5 t32 wr=>∃ (k:Nat),t32=.int .i64 (k:Nat)/\k<=c/\Hi (TxI W wr t5 (txL n t.2.1 t.2.2 k))) (fun _ t32 _=>((c:Int)-intOf t32).toNat)
  case atStart=>exact ⟨0,rfl,Nat.zero_le _,HE⟩
  clear c0 c1 c2 c3 c4 c5 lgb HP1 HE hlt hkl HR hk
  obtain ⟨k,rfl,hk,HR⟩:=hrel
  have HP1:Hi _:=Ok.row' HR.o.ok HP.o
  obtain ⟨c0,c1,c2,c3,c4,c5⟩:=za9 HP1.o
  have lgb:=za2 HP1.o
  by_cases hkl:k<c
  ·obtain ⟨x,hx⟩:∃ x,t.2.2[k]?=some x:=⟨_,List.getElem?_eq_getElem (by rw [<-HQ.o.2.2];exact hkl)⟩
   obtain ⟨b,o,cp,e1,e2,e3⟩:=HT.o.loops.at (by decide) (k:=k) (by rw [<-HQ.o.2.2];exact hkl)
   injection e1 with e4 e6 e5
   clear e6;subst e4 e5
   have r0:wr.cell? ⟨b,o+k*2,none⟩=some (.int .i64 x.1):=(HK.o.step HR.o.ok).cell (p:=⟨b,o+k*2,none⟩) e2 (e3 _ _ (zi1 _ _ _ hx).1)
   have r1:wr.cell? ⟨b,o+k*2+1,none⟩=some (.int .i64 x.2):=(HK.o.step HR.o.ok).cell (p:=⟨b,o+k*2+1,none⟩) e2 (e3 (k*2+1) _ (zi1 _ _ _ hx).2)
   have HX:Hi (t.2.2[k]?=some x):=hx
   have HX6:Hi (I64 x.1/\I64 x.2):=HB.o.li _ (List.mem_of_getElem? hx)
   have hlt:(k:Int)<(c:Int):=za5 hkl
   have kw:IntKind.i64.wrap ((k:Int)+1)=((k+1:Nat):Int):=zb3 (by have h1:=HB.o.ll;have h2:=HQ.o.2.2;omega)
   clear e2 e3 hx
   go_upto_region 12 with (fail)
   obtain ⟨Y,hY⟩:=qq (wr.alloc (Obj.cells #[.int .i64 x.1,.int .i64 x.2] 79))
   obtain ⟨g9,hg9⟩:=qq (wr.heap.size)
   rw [<-hY,<-hg9]
   have HY:Hi (Y.heap[g9]?=some (.cells #[Value.int IntKind.i64 x.1,Value.int IntKind.i64 x.2] 79 (0,0))):=by rw [hY,hg9];exact jj
   have HRY:Hi _:=HR.o.alloc (Obj.cells #[.int .i64 x.1,.int .i64 x.2] 79)
   rw [<-hY] at HRY
   clear hY hg9 c0 c1 c2 c3 c4 c5 lgb r0 r1
   obtain ⟨d0,d1,d2,d3⟩:=zd1 HY.o
   have HD2:Hi _:=HRY.o.drew
   have HYD2:Hi (Y.drew.heap[g9]?=some (.cells #[Value.int IntKind.i64 x.1,Value.int IntKind.i64 x.2] 79 (0,0))):=HY.o
   go_region_held3 (fun w'=>w'.cell? ⟨g9,0,none⟩=some (.int .i64 x.1)) (go_keep) (first | (refine zn7 (by rfl) _ _ 214 9 (by rfl) Tryz.underlying214 Tryz.underlying9 W.heap.size _ (txL n t.2.1 t.2.2 k) (by rfl) HD2.o.own [32,119,104,105,108,101,32] (by rfl) (by have h1:=HLL.o k hk;have h2:=Lib.itoa_length_le _ HX6.o.1.1 HX6.o.1.2;simp;omega) HD2.o.ok.le ?_;intro v2 w2 k1 k2;have HR2:Hi _:=HD2.o.str k1 k2;have HY2:Hi _:=zn3 (HD2.o.own.others k2) HYD2.o (by decide);clear k1 k2 d0 d1 d2 d3;obtain ⟨d0,d1,d2,d3⟩:=zd1 HY2.o) | (go_at_call 155;refine (zn2 HR2.o.own x.1 HX6.o.1 HR2.o.ok.le (by have h1:=HLL.o k hk;have h2:=Lib.itoa_length_le _ HX6.o.1.1 HX6.o.1.2;simp;omega) (HTB.o _ _ (HK.o.step HR2.o.ok) HS.o)).mono ?_;rintro e w3 ⟨v3,rfl,k1,k2,k3⟩;have HR3:Hi _:=HR2.o.num k1 k2;have HY3:Hi _:=zn3 k3 HY2.o (by decide);clear k1 k2 k3 d0 d1 d2 d3;obtain ⟨d0,d1,d2,d3⟩:=zd1 HY3.o) | fail)
   go_upto_region 13 with (fail)
   have HD4:Hi _:=HR3.o.drew
   have HYD4:Hi (w3.drew.heap[g9]?=some (.cells #[Value.int IntKind.i64 x.1,Value.int IntKind.i64 x.2] 79 (0,0))):=HY3.o
   go_region_held3 (fun w'=>w'.cell? ⟨g9,1,none⟩=some (.int .i64 x.2)) (go_keep) (first | (refine zn7 (by rfl) _ _ 214 9 (by rfl) Tryz.underlying214 Tryz.underlying9 W.heap.size _ ((txL n t.2.1 t.2.2 k++[32,119,104,105,108,101,32])++Lib.itoa x.1) (by rfl) HD4.o.own [32,114,111,117,110,100,32] (by rfl) (by have h1:=HLL.o k hk;have h2:=Lib.itoa_length_le _ HX6.o.1.1 HX6.o.1.2;simp;omega) HD4.o.ok.le ?_;intro v4 w4 k1 k2;have HR4:Hi _:=HD4.o.str k1 k2;have HY4:Hi _:=zn3 (HD4.o.own.others k2) HYD4.o (by decide);clear k1 k2 d0 d1 d2 d3;obtain ⟨d0,d1,d2,d3⟩:=zd1 HY4.o) | (go_at_call 155;refine (zn2 HR4.o.own x.2 HX6.o.2 HR4.o.ok.le (by have h1:=HLL.o k hk;have h2:=Lib.itoa_length_le _ HX6.o.1.1 HX6.o.1.2;simp;omega) (HTB.o _ _ (HK.o.step HR4.o.ok) HS.o)).mono ?_;rintro e w5 ⟨v5,rfl,k1,k2,k3⟩;have HR5:Hi _:=HR4.o.num k1 k2;have HY5:Hi _:=zn3 k3 HY4.o (by decide);clear k1 k2 k3 d0 d1 d2 d3;obtain ⟨d0,d1,d2,d3⟩:=zd1 HY5.o) | fail)
   go_wp2_with fail
   go_roundw
   case rel=>exact ⟨k+1,rfl,hkl,by rw [zR6 HX.o];exact HR5.o⟩
   case measure=>exact meas hkl
  have hlt:¬(k:Int)<(c:Int):=zb2 hkl
  have HE:Hi _:=HR.o.as (show txL n t.2.1 t.2.2 k=txtV Lib.itoa (n,t) by rw [<-zL7 HQ.o.1.symm,<-HQ.o.2.2,show c=k by omega])
  have hcv:=HE.o.own.conv (by rw [<-zL7 HQ.o.1.symm];unfold txL;rw [List.length_append];have:=yA8 n t.2.1 t.2.1.length;omega)
  go_wp2_with fail
  go_ret
  exact ⟨rfl,HK.o.step HE.o.ok⟩
end
section
open Go.Shelf Go.RowKit
def Tryz.laysM171_ren:Go.Shelf.Ren:={ Tryz.laysM176_ren with f:=fun | 171=>19 | 243=>35 | 246=>63 | n=>Tryz.laysM176_ren.f n }
theorem Tryz.laysM171:Go.Proofs.LaysM.n171 Tryz.prog Tryz.laysM171_ren:={ Tryz.laysM176 with
 f171:=Tryz.func19.trans (congrArg some (by kernel_rfl))
 f243:=Tryz.func35.trans (congrArg some (by kernel_rfl))
 f246:=Tryz.func63.trans (congrArg some (by kernel_rfl))
 f129:=Tryz.func138.trans (congrArg some (by kernel_rfl))
 f283:=Tryz.func98.trans (congrArg some (by kernel_rfl))
 f284:=Tryz.func99.trans (congrArg some (by kernel_rfl))
 f285:=Tryz.func100.trans (congrArg some (by kernel_rfl))
 f286:=Tryz.func101.trans (congrArg some (by kernel_rfl))
 f317:=Tryz.func137.trans (congrArg some (by kernel_rfl))
 f318:=Tryz.func139.trans (congrArg some (by kernel_rfl))
 f319:=Tryz.func140.trans (congrArg some (by kernel_rfl))
 f320:=Tryz.func141.trans (congrArg some (by kernel_rfl))
 f337:=Tryz.func156.trans (congrArg some (by kernel_rfl))
 f338:=Tryz.func157.trans (congrArg some (by kernel_rfl))
}
theorem zB3 (n:Int) (h:I64 n) (w:World) (htab:Lib.TabIs Tryz.prog w "internal/strconv.uint64pow10" .u64 Lib.pow10Tab) :
  Calls Tryz.prog 19 #[.int .i64 n] w fun e w'=>e=.returned (.string ⟨(Lib.itoa n).toArray⟩)/\Ok w w':=by
 refine (Any.strconv_Itoa Tryz.laysM171 n h.1 h.2 w htab).mono ?_
 rintro e w' ⟨rfl,k,os,rfl⟩
 exact ⟨rfl,Lib.below_grow _ w (Nat.le_refl _) k os⟩
theorem strA (w:World) {a b c:List UInt8} (e:c=a++b) (h:c.length<=9223372036854775807):(Op.stringOp .add ⟨a.toArray⟩ ⟨b.toArray⟩).run Tryz.prog w=.ok (.string ⟨c.toArray⟩) w:=by
 rw [run_string_add_sum w _ _ (by rw [e,List.length_append] at h;simpa [ByteArray.size] using h),ByteArray.mk_append_mk,e]
theorem zr2:∀ (h:List Int),(∀ x∈h,I64 x)->(keyH Lib.itoa h).length<=22*h.length
 | [],_=>by simp [keyH]
 | x::xs,hx=>by
  have h1:=Lib.itoa_length_le x (hx x (by simp)).1 (hx x (by simp)).2
  have h2:=zr2 xs fun y hy=>hx y (by simp [hy])
  have e:keyH Lib.itoa (x::xs)=(Lib.itoa x++[32])++keyH Lib.itoa xs:=rfl
  rw [e]
  simp only [List.length_append,List.length_cons,List.length_nil]
  omega
theorem zB4:∀ (h:List (Int×Int)),(∀ x∈h,I64 x.1/\I64 x.2)->(keyL Lib.itoa h).length<=44*h.length
 | [],_=>by simp [keyL]
 | x::xs,hx=>by
  have h0:=hx x (by simp)
  have h1:=Lib.itoa_length_le x.1 h0.1.1 h0.1.2
  have h3:=Lib.itoa_length_le x.2 h0.2.1 h0.2.2
  have h2:=zB4 xs fun y hy=>hx y (by simp [hy])
  have e:keyL Lib.itoa (x::xs)=(Lib.itoa x.1++120::(Lib.itoa x.2++[32]))++keyL Lib.itoa xs:=rfl
  rw [e]
  simp only [List.length_append,List.length_cons,List.length_nil]
  omega
theorem yh0 (D:Int->List UInt8) {h:List Int} {k:Nat} {x:Int} (hx:h[k]?=some x):keyH D (h.take (k+1))=keyH D (h.take k)++D x++[32]:=by
 unfold keyH
 rw [List.take_add_one,hx]
 simp
theorem yh1 (D:Int->List UInt8) {l:List (Int×Int)} {k:Nat} {x:Int×Int} (hx:l[k]?=some x):keyL D (l.take (k+1))=keyL D (l.take k)++D x.1++[120]++D x.2++[32]:=by
 unfold keyL
 rw [List.take_add_one,hx]
 simp
theorem yA9 (hv lv:Value) (t:Tok) (w:World) (ht:TokIs w hv lv t) (hb:TkB 100000 t) (htab:Lib.TabBelow Tryz.prog w.heap.size w "internal/strconv.uint64pow10" .u64 Lib.pow10Tab) :
  Calls Tryz.prog 8 #[.agg #[.bool t.1,hv,lv]] w fun e w'=>e=.returned (.string ⟨(keyT Lib.itoa t).toArray⟩)/\Ok w w':=by
 have HT:=hid ht
 have HB:=hid hb
 have HTB:Hi (∀ Y,Ok w Y->Lib.TabIs Tryz.prog Y "internal/strconv.uint64pow10" .u64 Lib.pow10Tab):=fun Y hY=>htab Y hY
 obtain ⟨_,_,ho,hc,e1,_⟩:=ht.hist
 obtain ⟨_,_,lo,lc,e2,_⟩:=ht.loops
 obtain ⟨q,hq⟩:=qq (t.2.1.length)
 obtain ⟨n,hn⟩:=qq (t.2.2.length)
 have HN:Hi (q=t.2.1.length/\n=t.2.2.length):=⟨hq,hn⟩
 rw [<-hq] at e1
 rw [<-hn] at e2
 subst e1 e2
 clear ht hb htab hq hn
 cases hm:t.1 with
 | true =>
  have HE:Hi (keyT Lib.itoa t=wMerged):=by unfold Hi keyT;rw [if_pos hm]
  clear hm
  go_enter Tryz.func8,Tryz.ntmps8
  go_wp2_with fail
  go_ret
  exact ⟨by rw [HE.o];rfl,(Ok.refl w).alloc _⟩
 | false =>
  have HE:Hi (keyT Lib.itoa t=keyH Lib.itoa t.2.1++47::keyL Lib.itoa t.2.2):=by unfold Hi keyT;rw [if_neg (by rw [hm];decide)]
  clear hm
  go_enter Tryz.func8,Tryz.ntmps8
  go_wp2_with fail
  obtain ⟨W,hW⟩:=qq (w.alloc (Obj.cells #[.bool false,.slice ho q hc,.slice lo n lc] 50))
  obtain ⟨gp,hgp⟩:=qq (w.heap.size)
  rw [<-hW,<-hgp]
  have HK:Hi (Ok w W):=by rw [hW];exact (Ok.refl w).alloc _
  have HP:Hi (W.heap[gp]?=some (.cells #[.bool false,.slice ho q hc,.slice lo n lc] 50 (0,0))):=by rw [hW,hgp];exact jj
  clear hW hgp
  go_loopw [3,4] (fun t3 t4 wr=>∃ (k:Nat),t4=.int .i64 (k:Nat)/\k<=q/\t3=.string ⟨(keyH Lib.itoa (t.2.1.take k)).toArray⟩/\Hi (Ok W wr)) (fun _ t4 _=>((q:Int)-intOf t4).toNat)
  case atStart=>exact ⟨0,rfl,Nat.zero_le _,rfl,Ok.refl _⟩
  obtain ⟨k,rfl,hk,rfl,HR⟩:=hrel
  have HP1:Hi _:=Ok.row' HR.o HP.o
  obtain ⟨c0,c1,c2,c3,c4,c5⟩:=za9 HP1.o
  have lgb:=za2 HP1.o
  by_cases hkl:k<q
  ·obtain ⟨x,hx⟩:∃ x,t.2.1[k]?=some x:=⟨_,List.getElem?_eq_getElem (by rw [<-HN.o.1];exact hkl)⟩
   obtain ⟨b,o,cp,e1,e2,e3⟩:=HT.o.hist.at (by decide) (k:=k) (by rw [<-HN.o.1];exact hkl)
   injection e1 with e4 e6 e5
   clear e6;subst e4 e5
   have r0:wr.cell? ⟨b,o+k,none⟩=some (.int .i64 x):=(HK.o.step HR.o).cell (p:=⟨b,o+k,none⟩) e2 (e3 _ _ (zk6 hx))
   have HX:Hi (t.2.1[k]?=some x):=hx
   have HX6:Hi (I64 x):=HB.o.hi _ (List.mem_of_getElem? hx)
   have hlt:(k:Int)<(q:Int):=za5 hkl
   have kw:IntKind.i64.wrap ((k:Int)+1)=((k+1:Nat):Int):=zb3 (by have h1:=HB.o.hl;have h2:=HN.o.1;omega)
   obtain ⟨s,hs⟩:=qq (keyH Lib.itoa (t.2.1.take k))
   obtain ⟨s1,hs1⟩:=qq (s++Lib.itoa x)
   obtain ⟨s2,hs2⟩:=qq (s1++[32])
   have HS:Hi (s2=keyH Lib.itoa (t.2.1.take (k+1))):=by unfold Hi;rw [yh0 _ hx,<-hs,hs2,hs1]
   have hz:s2.length<=22*100000:=by
    rw [HS.o]
    have h1:=zr2 (t.2.1.take (k+1)) fun y hy=>HB.o.hi y (List.mem_of_mem_take hy)
    have h2:=HB.o.hl
    rw [List.length_take] at h1
    omega
   have HA:Hi (∀ W,(Op.stringOp .add ⟨s.toArray⟩ ⟨(Lib.itoa x).toArray⟩).run Tryz.prog W=.ok (.string ⟨s1.toArray⟩) W/\(Op.stringOp .add ⟨s1.toArray⟩ ⟨#[32]⟩).run Tryz.prog W=.ok (.string ⟨s2.toArray⟩) W):=fun W=>⟨strA W hs1 (by rw [hs2,List.length_append] at hz;omega),strA W hs2 (by omega)⟩
   rw [<-hs]
   clear e2 e3 hx hs hs1 hs2 hz
   go_wp2_with fail
   refine (zB3 x HX6.o wr (HTB.o wr (HK.o.step HR.o))).mono ?_
   rintro e w1 ⟨rfl,hk1⟩
   have HR1:Hi (Ok W w1):=HR.o.step hk1
   obtain ⟨A1,A2⟩:=HA.o w1
   clear hk1 c0 c1 c2 c3 c4 c5 lgb r0 HP1 HA
   go_wp2_with fail
   refine ⟨⟨k+1,rfl,hkl,by rw [HS.o],HR1⟩,?_⟩
   simp only [intOf]
   omega
  have hlt:¬(k:Int)<(q:Int):=zb2 hkl
  obtain ⟨s,hs⟩:=qq (keyH Lib.itoa (t.2.1.take k))
  obtain ⟨s1,hs1⟩:=qq (s++[47])
  have hs3:s=keyH Lib.itoa t.2.1:=by rw [hs,List.take_of_length_le (by have:=HN.o.1;omega)]
  have HS1:Hi (s1=keyH Lib.itoa t.2.1++[47]):=by unfold Hi;rw [hs1,hs3]
  have hz:s.length<=22*100000:=by
   rw [hs3]
   have h1:=zr2 t.2.1 HB.o.hi
   have h2:=HB.o.hl
   omega
  have HZ:Hi (s1.length<=22*100000+1):=by unfold Hi;rw [hs1,List.length_append];simp;omega
  have A1:(Op.stringOp .add ⟨s.toArray⟩ ⟨#[47]⟩).run Tryz.prog wr=.ok (.string ⟨s1.toArray⟩) wr:=strA wr hs1 (by have:=HZ.o;omega)
  rw [<-hs]
  clear hs hs1 hs3 hz
  go_wp2_with fail
  obtain ⟨W3,hW3⟩:=qq (wr)
  subst hW3
  go_loopw [3,5] (fun t3 t5 wr=>∃ (k:Nat) (s:List UInt8),t5=.int .i64 (k:Nat)/\k<=n/\t3=.string ⟨s.toArray⟩/\Hi (s=s1++keyL Lib.itoa (t.2.2.take k))/\Hi (Ok W wr)) (fun _ t5 _=>((n:Int)-intOf t5).toNat)
  case atStart=>exact ⟨0,s1,rfl,Nat.zero_le _,rfl,by simp [Hi,keyL],HR⟩
  clear c0 c1 c2 c3 c4 c5 lgb HP1 hlt hkl HR hk A1
  obtain ⟨k,s,rfl,hk,rfl,HS,HR⟩:=hrel
  have HP1:Hi _:=Ok.row' HR.o HP.o
  obtain ⟨c0,c1,c2,c3,c4,c5⟩:=za9 HP1.o
  have lgb:=za2 HP1.o
  by_cases hkl:k<n
  ·obtain ⟨x,hx⟩:∃ x,t.2.2[k]?=some x:=⟨_,List.getElem?_eq_getElem (by rw [<-HN.o.2];exact hkl)⟩
   obtain ⟨b,o,cp,e1,e2,e3⟩:=HT.o.loops.at (by decide) (k:=k) (by rw [<-HN.o.2];exact hkl)
   injection e1 with e4 e6 e5
   clear e6;subst e4 e5
   have HX6:Hi (I64 x.1/\I64 x.2):=HB.o.li _ (List.mem_of_getElem? hx)
   have hlt:(k:Int)<(n:Int):=za5 hkl
   have kw:IntKind.i64.wrap ((k:Int)+1)=((k+1:Nat):Int):=zb3 (by have h1:=HB.o.ll;have h2:=HN.o.2;omega)
   have HC:Hi (∀ Y,Ok wr Y->Y.cell? ⟨gp,2,none⟩=some (.slice (some ⟨b,o,none⟩) n lc)/\gp<Y.heap.size/\Y.cell? ⟨b,o+k*2,none⟩=some (.int .i64 x.1)/\Y.cell? ⟨b,o+k*2+1,none⟩=some (.int .i64 x.2)/\b<Y.heap.size):=fun Y hY=>by
    have hb2:b<wr.heap.size:=Nat.lt_of_lt_of_le e2 (HK.o.step HR.o).le
    refine ⟨hY.cell (p:=⟨gp,2,none⟩) lgb c2,Nat.lt_of_lt_of_le lgb hY.le,((HK.o.step HR.o).step hY).cell (p:=⟨b,o+k*2,none⟩) e2 (e3 _ _ (zi1 _ _ _ hx).1),((HK.o.step HR.o).step hY).cell (p:=⟨b,o+k*2+1,none⟩) e2 (e3 (k*2+1) _ (zi1 _ _ _ hx).2),Nat.lt_of_lt_of_le hb2 hY.le⟩
   obtain ⟨s3,hs3⟩:=qq (s++Lib.itoa x.1)
   obtain ⟨s4,hs4⟩:=qq (s3++[120])
   obtain ⟨s5,hs5⟩:=qq (s4++Lib.itoa x.2)
   obtain ⟨s6,hs6⟩:=qq (s5++[32])
   have HS6:Hi (s6=s1++keyL Lib.itoa (t.2.2.take (k+1))):=by unfold Hi;rw [yh1 _ hx,hs6,hs5,hs4,hs3,HS.o];simp
   have hz:s6.length<=66*100000+1:=by
    rw [HS6.o,List.length_append]
    have h1:=zB4 (t.2.2.take (k+1)) fun y hy=>HB.o.li y (List.mem_of_mem_take hy)
    have h2:=HB.o.ll
    have h3:=HZ.o
    rw [List.length_take] at h1
    omega
   have HA:Hi (∀ W,(Op.stringOp .add ⟨s.toArray⟩ ⟨(Lib.itoa x.1).toArray⟩).run Tryz.prog W=.ok (.string ⟨s3.toArray⟩) W/\(Op.stringOp .add ⟨s3.toArray⟩ ⟨#[120]⟩).run Tryz.prog W=.ok (.string ⟨s4.toArray⟩) W/\(Op.stringOp .add ⟨s4.toArray⟩ ⟨(Lib.itoa x.2).toArray⟩).run Tryz.prog W=.ok (.string ⟨s5.toArray⟩) W/\(Op.stringOp .add ⟨s5.toArray⟩ ⟨#[32]⟩).run Tryz.prog W=.ok (.string ⟨s6.toArray⟩) W):=fun W=>by
    have z5:s5.length<=s6.length:=by rw [hs6,List.length_append];omega
    have z4:s4.length<=s5.length:=by rw [hs5,List.length_append];omega
    have z3:s3.length<=s4.length:=by rw [hs4,List.length_append];omega
    exact ⟨strA W hs3 (by omega),strA W hs4 (by omega),strA W hs5 (by omega),strA W hs6 (by omega)⟩
   clear e2 e3 hx hs3 hs4 hs5 hs6 hz c0 c1 c2 c3 c4 c5 HP1 lgb HS
   obtain ⟨c2,lgb,r0,r1,lb⟩:=HC.o wr (Ok.refl wr)
   go_upto_region 12 with (fail)
   have S0:Ok wr wr.drew:=Below.drew (Ok.refl wr)
   clear c2 lgb r0 r1 lb
   refine zd5 (fun Y=>Ok wr Y) 19 (by kernel_rfl) ?_
   refine tL 0 (.string ⟨s.toArray⟩) S0 ?_ ?_
   ·intro w' s0;clear s0;go_simp;try with_reducible rfl
   simp only [pu]
   refine tL 1 (.pointer (some ⟨gp,2,none⟩)) S0 ?_ ?_
   ·intro w' s0;clear s0;go_simp;try with_reducible rfl
   simp only [pu]
   refine tL 2 (.slice (some ⟨b,o,none⟩) n lc) S0 ?_ ?_
   ·intro w' s0;obtain ⟨z1,z2,z3,z4,z5⟩:=HC.o w' s0;clear s0;go_simp;try with_reducible rfl
   simp only [pu]
   refine tL 3 (.int .i64 (k:Nat)) S0 ?_ ?_
   ·intro w' s0;clear s0;go_simp;try with_reducible rfl
   simp only [pu]
   refine tL 4 (.pointer (some ⟨b,o+k*2,none⟩)) S0 ?_ ?_
   ·intro w' s0;have z7:(0:Int)<=(k:Int):=(by omega);have z8:¬((n:Int)<=(k:Int)):=(by omega);clear s0;go_simp;try with_reducible rfl
   simp only [pu]
   refine tL 5 (.pointer (some ⟨b,o+k*2,none⟩)) S0 ?_ ?_
   ·intro w' s0;clear s0;go_simp;try with_reducible rfl
   simp only [pu]
   refine tL 6 (.int .i64 x.1) S0 ?_ ?_
   ·intro w' s0;obtain ⟨z1,z2,z3,z4,z5⟩:=HC.o w' s0;clear s0;go_simp;try with_reducible rfl
   simp only [pu]
   refine tL 10 (.pointer (some ⟨gp,2,none⟩)) S0 ?_ ?_
   ·intro w' s0;clear s0;go_simp;try with_reducible rfl
   simp only [pu]
   refine tL 11 (.slice (some ⟨b,o,none⟩) n lc) S0 ?_ ?_
   ·intro w' s0;obtain ⟨z1,z2,z3,z4,z5⟩:=HC.o w' s0;clear s0;go_simp;try with_reducible rfl
   simp only [pu]
   refine tL 12 (.int .i64 (k:Nat)) S0 ?_ ?_
   ·intro w' s0;clear s0;go_simp;try with_reducible rfl
   simp only [pu]
   refine tL 13 (.pointer (some ⟨b,o+k*2,none⟩)) S0 ?_ ?_
   ·intro w' s0;have z7:(0:Int)<=(k:Int):=(by omega);have z8:¬((n:Int)<=(k:Int)):=(by omega);clear s0;go_simp;try with_reducible rfl
   simp only [pu]
   refine tL 14 (.pointer (some ⟨b,o+k*2+1,none⟩)) S0 ?_ ?_
   ·intro w' s0;clear s0;go_simp;try with_reducible rfl
   simp only [pu]
   refine tL 15 (.int .i64 x.2) S0 ?_ ?_
   ·intro w' s0;obtain ⟨z1,z2,z3,z4,z5⟩:=HC.o w' s0;clear s0;go_simp;try with_reducible rfl
   simp only [pu]
   refine zb0 (i:=7) (by kernel_rfl) rfl (fun K hK=>?_)
   go_simp
   refine (zB3 x.1 HX6.o.1 _ (HTB.o _ ((HK.o.step HR.o).step S0))).mono ?_
   rintro e D1 ⟨rfl,hk1⟩
   have S1:Ok wr D1:=S0.step hk1
   refine hK.out _ _ (fun _=>S1) ?_
   clear hK K S0 hk1
   have S0:=S1
   clear S1
   try simp only [pu]
   refine tL 8 (.string ⟨s3.toArray⟩) S0 ?_ ?_
   ·intro w' s0;obtain ⟨y1,y2,y3,y4⟩:=HA.o w';clear s0;go_simp;try with_reducible rfl
   simp only [pu]
   refine tL 9 (.string ⟨s4.toArray⟩) S0 ?_ ?_
   ·intro w' s0;obtain ⟨y1,y2,y3,y4⟩:=HA.o w';clear s0;go_simp;try with_reducible rfl
   simp only [pu]
   refine zb0 (i:=16) (by kernel_rfl) rfl (fun K hK=>?_)
   go_simp
   refine (zB3 x.2 HX6.o.2 _ (HTB.o _ ((HK.o.step HR.o).step S0))).mono ?_
   rintro e D2 ⟨rfl,hk1⟩
   have S1:Ok wr D2:=S0.step hk1
   refine hK.out _ _ (fun _=>S1) ?_
   clear hK K S0 hk1
   have S0:=S1
   clear S1
   try simp only [pu]
   refine tL 17 (.string ⟨s5.toArray⟩) S0 ?_ ?_
   ·intro w' s0;obtain ⟨y1,y2,y3,y4⟩:=HA.o w';clear s0;go_simp;try with_reducible rfl
   simp only [pu]
   refine tL 18 (.string ⟨s6.toArray⟩) S0 ?_ ?_
   ·intro w' s0;obtain ⟨y1,y2,y3,y4⟩:=HA.o w';clear s0;go_simp;try with_reducible rfl
   simp only [pu]
   refine zb0 (i:=19) (by kernel_rfl) rfl (fun K hK=>?_)
   go_simp
   refine hK.out _ _ (fun h=>absurd rfl h) ?_
   clear hK K
   refine zd4 (by kernel_rfl) ?_ _
   have HR2:Hi (Ok W D2):=HR.o.step S0
   clear S0 HR HA HC
   go_wp2_with fail
   refine ⟨⟨k+1,s6,rfl,hkl,rfl,HS6,HR2⟩,?_⟩
   simp only [intOf]
   omega
  have hlt:¬(k:Int)<(n:Int):=zb2 hkl
  go_wp2_with fail
  go_ret
  refine ⟨?_,HK.o.step HR.o⟩
  rw [HS.o,HS1.o,HE.o,List.take_of_length_le (by have:=HN.o.2;omega)]
  simp
end
end Go.Proofs.YtbneneijdgcccaaGreatDoor
