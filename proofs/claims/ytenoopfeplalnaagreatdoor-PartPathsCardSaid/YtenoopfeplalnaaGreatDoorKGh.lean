import Derived.Shelf.Strconv.AppendIntPublic10
import Derived.Lib.ItoaLen
import Derived.Test.YtenoopfeplalnaaGreatDoorKGe
set_option linter.all false
namespace Go.Proofs.YtenoopfeplalnaaGreatDoor
section
open Go.Shelf
def Tryz.laysM176_ren:Go.Shelf.Ren:=⟨fun | 176=>139 | 249=>146 | 288=>155 | 283=>156 | 284=>157 | 285=>158 | 286=>159 | 129=>161 | 317=>160 | 318=>162 | 319=>163 | 320=>164 | 337=>165 | 338=>166 | n=>n,fun | 37=>226 | 2=>2 | 3=>3 | 53=>247 | 4=>4 | 9=>9 | 171=>250 | 0=>0 | 173=>253 | 212=>256 | 51=>257 | 5=>5 | 20=>20 | 213=>258 | 46=>259 | 232=>262 | 233=>263 | n=>n,fun | 17=>5 | 18=>6 | 19=>7 | n=>n⟩
theorem Tryz.laysM176:Go.Proofs.LaysM.n176 Tryz.prog Tryz.laysM176_ren:={
 mixed:=by kernel_rfl
 f129:=Tryz.func161.trans (congrArg some (by kernel_rfl))
 f176:=Tryz.func139.trans (congrArg some (by kernel_rfl))
 f249:=Tryz.func146.trans (congrArg some (by kernel_rfl))
 f283:=Tryz.func156.trans (congrArg some (by kernel_rfl))
 f284:=Tryz.func157.trans (congrArg some (by kernel_rfl))
 f285:=Tryz.func158.trans (congrArg some (by kernel_rfl))
 f286:=Tryz.func159.trans (congrArg some (by kernel_rfl))
 f288:=Tryz.func155.trans (congrArg some (by kernel_rfl))
 f317:=Tryz.func160.trans (congrArg some (by kernel_rfl))
 f318:=Tryz.func162.trans (congrArg some (by kernel_rfl))
 f319:=Tryz.func163.trans (congrArg some (by kernel_rfl))
 f320:=Tryz.func164.trans (congrArg some (by kernel_rfl))
 f337:=Tryz.func165.trans (congrArg some (by kernel_rfl))
 f338:=Tryz.func166.trans (congrArg some (by kernel_rfl))
 t0:=Tryz.underlying0
 a0:=Tryz.isAgg0
 z0:=Tryz.sizeOf0
 v0:=Tryz.zeroValue0
 t2:=Tryz.underlying2
 a2:=Tryz.isAgg2
 z2:=Tryz.sizeOf2
 v2:=Tryz.zeroValue2
 t3:=Tryz.underlying3
 a3:=Tryz.isAgg3
 z3:=Tryz.sizeOf3
 v3:=Tryz.zeroValue3
 t4:=Tryz.underlying4
 a4:=Tryz.isAgg4
 z4:=Tryz.sizeOf4
 v4:=Tryz.zeroValue4
 t5:=Tryz.underlying5
 a5:=Tryz.isAgg5
 z5:=Tryz.sizeOf5
 v5:=Tryz.zeroValue5
 t9:=Tryz.underlying9
 a9:=Tryz.isAgg9
 z9:=Tryz.sizeOf9
 v9:=Tryz.zeroValue9
 t20:=Tryz.underlying20
 a20:=Tryz.isAgg20
 z20:=Tryz.sizeOf20
 v20:=Tryz.zeroValue20
 t37:=Tryz.underlying226
 a37:=Tryz.isAgg226
 z37:=Tryz.sizeOf226
 v37:=Tryz.zeroValue226
 t46:=Tryz.underlying259
 a46:=Tryz.isAgg259
 z46:=Tryz.sizeOf259
 v46:=Tryz.zeroValue259
 t51:=Tryz.underlying257
 a51:=Tryz.isAgg257
 z51:=Tryz.sizeOf257
 v51:=Tryz.zeroValue257
 t53:=Tryz.underlying247
 a53:=Tryz.isAgg247
 z53:=Tryz.sizeOf247
 v53:=Tryz.zeroValue247
 t171:=Tryz.underlying250
 a171:=Tryz.isAgg250
 z171:=Tryz.sizeOf250
 v171:=Tryz.zeroValue250
 t173:=Tryz.underlying253
 a173:=Tryz.isAgg253
 z173:=Tryz.sizeOf253
 v173:=Tryz.zeroValue253
 t212:=Tryz.underlying256
 a212:=Tryz.isAgg256
 z212:=Tryz.sizeOf256
 v212:=Tryz.zeroValue256
 t213:=Tryz.underlying258
 a213:=Tryz.isAgg258
 z213:=Tryz.sizeOf258
 t232:=Tryz.underlying262
 a232:=Tryz.isAgg262
 z232:=Tryz.sizeOf262
 v232:=Tryz.zeroValue262
 t233:=Tryz.underlying263
 a233:=Tryz.isAgg263
 z233:=Tryz.sizeOf263
 v233:=Tryz.zeroValue263
 g17:=by kernel_rfl
 g18:=by kernel_rfl
 g19:=by kernel_rfl
 i0:=by kernel_rfl
 i2:=by kernel_rfl
 i3:=by kernel_rfl
 i4:=by kernel_rfl
 i5:=by kernel_rfl
 i9:=by kernel_rfl
 i20:=by kernel_rfl
 i37:=by kernel_rfl
 i46:=by kernel_rfl
 i51:=by kernel_rfl
 i53:=by kernel_rfl
 i171:=by kernel_rfl
 i173:=by kernel_rfl
 i212:=by kernel_rfl
 i232:=by kernel_rfl
 i233:=by kernel_rfl
 m17:=by kernel_rfl
 m18:=by kernel_rfl
 m19:=by kernel_rfl }
open Go.RowKit Go.Sort Go.Lib in
theorem Tryz.strconv_AppendInt_10 (B n:Nat) (i:Int) (h0 : -9223372036854775808<=i) (h1:i<=9223372036854775807) (sv:Value) (xs:List Value) (w:World) (hown:w.ownsRow B 5 1 sv n xs) (hBw:B<=w.heap.size) (hlim:n+21<=140737488355328) (htab:Lib.TabBelow Tryz.prog B w "internal/strconv.uint64pow10" .u64 Lib.pow10Tab) :
  Calls Tryz.prog 139 #[sv,.int .i64 i,.int .i64 10] w fun e w'=>∃ v',e=.returned v'/\w'.ownsRow B 5 1 v' (n+(Lib.itoa i).length) (xs++Lib.byteCells (Lib.itoa i))/\Below B w w'/\Lib.OthersKept 5 none w w':=Any.strconv_AppendInt_10 Tryz.laysM176 B n i h0 h1 sv xs w hown hBw hlim htab
end
section
open Go.RowKit
def I64 (v:Int):Prop := -9223372036854775808<=v/\v<=9223372036854775807
structure TkB (M:Nat) (t:Tok):Prop where
 hl:t.2.1.length<=M
 ll:t.2.2.length<=M
 hi:∀ x∈t.2.1,I64 x
 li:∀ x∈t.2.2,I64 x.1/\I64 x.2
def txH (n:Int) (h:List Int) (k:Nat):List UInt8:=Lib.itoa n++spaced (wdH Lib.itoa (h.take k))
def txL (n:Int) (h:List Int) (l:List (Int×Int)) (k:Nat):List UInt8:=txH n h h.length++spaced (wdL Lib.itoa (l.take k))
theorem zO4 (n:Int) (h:List Int):txH n h 0=Lib.itoa n:=by simp [txH,wdH,spaced]
theorem zO5 {n:Int} {h:List Int} {k:Nat} {x:Int} (hx:h[k]?=some x):txH n h (k+1)=txH n h k++[32,105,102,32]++Lib.itoa x:=by
 unfold txH
 rw [List.take_add_one,hx]
 simp [wdH,spaced,wIf]
theorem zO6 (n:Int) (h:List Int) (l:List (Int×Int)):txL n h l 0=txH n h h.length:=by simp [txL,wdL,spaced]
theorem zO7 {n:Int} {h:List Int} {l:List (Int×Int)} {k:Nat} {x:Int×Int} (hx:l[k]?=some x):txL n h l (k+1)=txL n h l k++[32,119,104,105,108,101,32]++Lib.itoa x.1++[32,114,111,117,110,100,32]++Lib.itoa x.2:=by
 unfold txL
 rw [List.take_add_one,hx]
 simp [wdL,spaced,wWhile,wRound]
theorem zI5 {n:Int} {t:Tok} (hm:t.1=false):txL n t.2.1 t.2.2 t.2.2.length=txtV Lib.itoa (n,t):=by
 unfold txL txH txtV wdT
 rw [if_neg (by simp [hm]),List.take_length,List.take_length,zR9,List.append_assoc]
theorem zZ9 {n:Int} {t:Tok} (hm:t.1=true):txtV Lib.itoa (n,t)=Lib.itoa n++[32,109,101,114,103,101,100]:=by
 unfold txtV wdT
 rw [if_pos hm]
 simp [spaced,wMerged]
theorem zI6 {n:Int} {h:List Int} (hn:I64 n) (hh:∀ x∈h,I64 x):∀ k,k<=h.length->(txH n h k).length<=21+25*k
 | 0,_=>by rw [zO4];exact Lib.itoa_length_le n hn.1 hn.2
 | k+1,hk=>by
  have hx:h[k]?=some h[k]:=List.getElem?_eq_getElem (by omega)
  have h1:=zI6 hn hh k (by omega)
  have h2:=hh _ (List.mem_of_getElem? hx)
  have h3:=Lib.itoa_length_le _ h2.1 h2.2
  rw [zO5 hx,List.length_append,List.length_append]
  simp only [List.length_cons,List.length_nil]
  omega
theorem zI7 {n:Int} {h:List Int} {l:List (Int×Int)} (hn:I64 n) (hh:∀ x∈h,I64 x) (hl:∀ x∈l,I64 x.1/\I64 x.2):∀ k,k<=l.length->(txL n h l k).length<=21+25*h.length+56*k
 | 0,_=>by rw [zO6];exact zI6 hn hh _ (Nat.le_refl _)
 | k+1,hk=>by
  have hx:l[k]?=some l[k]:=List.getElem?_eq_getElem (by omega)
  have h1:=zI7 hn hh hl k (by omega)
  have h2:=hl _ (List.mem_of_getElem? hx)
  have h3:=Lib.itoa_length_le _ h2.1.1 h2.1.2
  have h4:=Lib.itoa_length_le _ h2.2.1 h2.2.2
  rw [zO7 hx]
  simp only [List.length_append,List.length_cons,List.length_nil]
  omega
theorem yB5 (a b:List UInt8):Lib.byteCells (a++b)=Lib.byteCells a++Lib.byteCells b:=by simp [Lib.byteCells]
theorem infBy:(Tryz.prog.info? 5).map (fun i=>(i.zero,i.size,i.bytes))=some (some (.int .u8 0),1,1):=by kernel_rfl
def Txt (w:World) (B:Nat) (v:Value) (l:List UInt8):Prop:=w.ownsRow B 5 1 v l.length (Lib.byteCells l)
theorem Txt.more {w:World} {B n:Nat} {v:Value} {l l':List UInt8} (h:w.ownsRow B 5 1 v (l.length+n) (Lib.byteCells l++Lib.byteCells l')) (hn:n=l'.length):Txt w B v (l++l'):=by
 unfold Txt
 rw [List.length_append,yB5,<-hn]
 exact h
theorem zn1 {w:World} {ops:Array Oper} {o:Oper} {a:Act} {K:Act->World->Prop} {Q:Exit->Act->World->Prop} {E:Prop} (hgd:o.guard=none) (s x:Operand) (t u:TypeId)
  (ho:o.op=.call { callee:=.builtin .append,args:=#[s,x],argTypes:=#[t,u] }) (ht:Tryz.prog.underlying t=some (.slice 5)) (hu:Tryz.prog.underlying u=some .string)
  (B:Nat) (sv:Value) (l:List UInt8) (hs:a.eval s=sv) (hown:Txt w B sv l) (r:List UInt8) (hx:a.eval x=.string ⟨r.toArray⟩) (hb:l.length+r.length<=140737488355328) (hB:B<=w.heap.size)
  (h:∀ v' w',Txt w' B v' (l++r)->w.grownBy w' sv.ownBlock->K (a.put o.dst v') w') :
  if Region.wanted o (yielded ops a.tmps)=true then Oper.wp Tryz.prog o a w K Q else E:=by
 have hw:Region.wanted o (yielded ops a.tmps)=true:=by simp [Region.wanted,hgd]
 rw [if_pos hw]
 obtain ⟨i,hi,hz,hsi,hby⟩:=zg8 infBy
 have e:(⟨r.toArray⟩:ByteArray).size=r.length:=by simp [ByteArray.size]
 obtain ⟨v',w',r1,r2,r3,_⟩:=Lib.run_append_own_string (P:=Tryz.prog) w B t u o.type 5 i ht hu hi hz hsi hby sv l.length (Lib.byteCells l) hown ⟨r.toArray⟩ (by rw [e];unfold maxLen;omega) (by rw [e];exact hb) hB
 rw [Lib.strCells_toArray,e] at r2
 unfold Oper.wp execOp
 simp only [ho,resolve,invoke,builtin,Sem.run_bind,Sem.run_pure,Result.andThen_ok,List.map_toArray,List.map_cons,List.map_nil,hs,hx,r1]
 exact h v' w' (Txt.more r2 rfl) r3
theorem zk8 {w:World} {ops:Array Oper} {rest:List Oper} {o:Oper} {a:Act} {Q:Exit->Act->World->Prop} (hgd:o.guard=none) (s x:Operand) (t u:TypeId)
  (ho:o.op=.call { callee:=.builtin .append,args:=#[s,x],argTypes:=#[t,u] }) (ht:Tryz.prog.underlying t=some (.slice 5)) (hu:Tryz.prog.underlying u=some .string)
  (B:Nat) (sv:Value) (l:List UInt8) (hs:a.eval s=sv) (hown:Txt w B sv l) (r:List UInt8) (hx:a.eval x=.string ⟨r.toArray⟩) (hb:l.length+r.length<=140737488355328) (hB:B<=w.heap.size)
  (h:∀ v' w',Txt w' B v' (l++r)->w.grownBy w' sv.ownBlock->wpList Tryz.prog ops Q rest (a.put o.dst v') w'):wpList Tryz.prog ops Q (o::rest) a w:=by
 obtain ⟨i,hi,hz,hsi,hby⟩:=zg8 infBy
 have e:(⟨r.toArray⟩:ByteArray).size=r.length:=by simp [ByteArray.size]
 refine Lib.wpList_append_own_string w hgd s x t u ho B 5 i ht hu hi hz hsi hby sv l.length (Lib.byteCells l) hs hown ⟨r.toArray⟩ hx (by rw [e];unfold maxLen;omega) (by rw [e];exact hb) hB ?_
 intro v' w' k1 k2 _
 rw [Lib.strCells_toArray,e] at k1
 exact h v' w' (Txt.more k1 rfl) k2
theorem zm5 {w:World} {B:Nat} {v:Value} {l:List UInt8} (h:Txt w B v l) (i:Int) (hi:I64 i) (hB:B<=w.heap.size) (hl:l.length+21<=140737488355328) (hT:Lib.TabBelow Tryz.prog B w "internal/strconv.uint64pow10" .u64 Lib.pow10Tab) :
  Calls Tryz.prog 139 #[v,.int .i64 i,.int .i64 10] w fun e w'=>∃ v',e=.returned v'/\Txt w' B v' (l++Lib.itoa i)/\Below B w w'/\Lib.OthersKept 5 none w w' :=
 (Tryz.strconv_AppendInt_10 B l.length i hi.1 hi.2 v _ w h hB hl hT).mono fun e w' ⟨v',h1,h2,h3,h4⟩=>⟨v',h1,Txt.more h2 rfl,h3,h4⟩
theorem Txt.others {w w':World} {B:Nat} {v:Value} {l:List UInt8} (h:Txt w B v l) (hg:w.grownBy w' v.ownBlock):Lib.OthersKept 5 none w w':=fun k o hk _ ho =>
 (hg.block k (za2 hk) fun e=>by
  rcases h.2 with ⟨rfl,_⟩ | ⟨g,cap,cur,rfl,_,hgg,_⟩
  ·cases e
  ·have e1:k=g:=Option.some.inj e
   subst e1
   rw [hgg] at hk
   injection hk with hk
   exact ho _ _ hk.symm).trans hk
theorem zm6 {w w':World} (h:Lib.OthersKept 5 none w w') {g:Nat} {cs:Array Value} {t:TypeId} {fz:Nat×Nat} (hr:w.heap[g]?=some (.cells cs t fz)) (ht:t≠5):w'.heap[g]?=some (.cells cs t fz):=h g _ hr (by simp) fun c f e=>by injection e with _ e2;exact ht e2
theorem Txt.conv {w:World} {B:Nat} {v:Value} {l:List UInt8} (h:Txt w B v l) (hp:0<l.length):(convert 226 9 v).run Tryz.prog w=.ok (.string ⟨l.toArray⟩) w:=by
 rcases h.2 with ⟨_,h0⟩ | ⟨g,cap,cur,rfl,_⟩
 ·omega
 ·exact run_convert_bytes_back (P:=Tryz.prog) w 226 9 5 ⟨g,0,none⟩ cap l Tryz.underlying226 Tryz.underlying5 Tryz.underlying9 (fun j hj=>World.ownsRow.cells h (g:=g) rfl j _ (by simp [Lib.byteCells,hj]))
theorem yw8 (n:Int) (h:List Int) (k:Nat):0<(txH n h k).length:=by
 unfold txH
 have h1:=zO3.ne n
 have h2:0<(Lib.itoa n).length:=List.length_pos_iff.2 h1
 rw [List.length_append]
 omega
theorem SL.at {w:World} {s:Nat} {v:Value} {n:Nat} {xs:List Value} (h:SL w s v n xs) (hs:0<s) {k:Nat} (hk:k<n):∃ b o cap,v=.slice (some ⟨b,o,none⟩) n cap/\b<w.heap.size/\∀ j u,xs[j]?=some u->w.cell? ⟨b,o+j,none⟩=some u:=by
 obtain ⟨_,_,ao,cap,rfl,h2⟩:=h
 rcases h2 with h2 | ⟨b,o,rfl,hl,hc⟩
 ·omega
 ·exact ⟨b,o,cap,rfl,hl,hc⟩
theorem zs5 {l:List Int} {k:Nat} {x:Int} (h:l[k]?=some x):(ilL l)[k]?=some (.int .i64 x):=by unfold ilL;rw [List.getElem?_map,h];rfl
structure TxI (W wr:World) (v:Value) (l:List UInt8):Prop where
 ok:Ok W wr
 own:Txt wr W.heap.size v l
theorem TxI.as {W wr:World} {v:Value} {l r:List UInt8} (h:TxI W wr v l) (e:l=r):TxI W wr v r:=by rw [<-e];exact h
theorem TxI.alloc {W wr:World} {v:Value} {l:List UInt8} (h:TxI W wr v l) (o:Obj):TxI W (wr.alloc o) v l:=⟨h.ok.alloc o,World.ownsRow.alloc h.own o⟩
theorem TxI.drew {W wr:World} {v:Value} {l:List UInt8} (h:TxI W wr v l):TxI W wr.drew v l:=⟨Below.drew h.ok,h.own⟩
theorem TxI.str {W wr w':World} {v v':Value} {l r:List UInt8} (h:TxI W wr v l) (h1:Txt w' W.heap.size v' (l++r)) (h2:wr.grownBy w' v.ownBlock):TxI W w' v' (l++r):=⟨h.ok.grown h2 (fun b e=>(World.ownsRow.lt h.own b e).1),h1⟩
theorem TxI.num {W wr w':World} {v v':Value} {l r:List UInt8} (h:TxI W wr v l) (h1:Txt w' W.heap.size v' r) (h2:Below W.heap.size wr w'):TxI W w' v' r:=⟨Below.trans h.ok h2,h1⟩
set_option maxRecDepth 100000 in
set_option maxHeartbeats 8000000 in
theorem zS1 (n:Int) (hv lv:Value) (t:Tok) (w:World) (hn:I64 n) (ht:TokIs w hv lv t) (hb:TkB 100000 t) (hT:Lib.TabBelow Tryz.prog w.heap.size w "internal/strconv.uint64pow10" .u64 Lib.pow10Tab) :
  Calls Tryz.prog 125 #[.int .i64 n,.agg #[.bool t.1,hv,lv]] w fun e w'=>e=.returned (.string ⟨(txtV Lib.itoa (n,t)).toArray⟩)/\Ok w w':=by
 have HT:=hid ht
 have HB:=hid hb
 have HN:=hid hn
 have HTB:Hid (∀ Y B,Ok w Y->w.heap.size<=B->Lib.TabBelow Tryz.prog B Y "internal/strconv.uint64pow10" .u64 Lib.pow10Tab):=fun Y B hY hB w' hw'=>hT w' (Below.trans hY (hw'.mono hB))
 obtain ⟨_,_,ho,hc,rfl,_⟩:=ht.hist
 obtain ⟨_,_,lo,lc,rfl,_⟩:=ht.loops
 obtain ⟨m,hmm⟩:∃ m,m=t.1:=⟨_,rfl⟩
 obtain ⟨q,hq⟩:∃ q,q=t.2.1.length:=⟨_,rfl⟩
 obtain ⟨c,hcc⟩:∃ c,c=t.2.2.length:=⟨_,rfl⟩
 have HQ:Hid (m=t.1/\q=t.2.1.length/\c=t.2.2.length):=⟨hmm,hq,hcc⟩
 rw [<-hq,<-hcc] at HT
 rw [<-hmm,<-hq,<-hcc]
 clear ht hb hn hT hmm hq hcc
 go_enter Tryz.func125,Tryz.ntmps125
 go_wp2_with fail
 obtain ⟨W,hW⟩:∃ z,z=w.alloc (Obj.cells #[.bool m,.slice ho q hc,.slice lo c lc] 54):=⟨_,rfl⟩
 obtain ⟨gb,hgb⟩:∃ z,z=w.heap.size:=⟨_,rfl⟩
 rw [<-hW,<-hgb]
 have HK:Hid (Ok w W):=by unfold Hid;rw [hW];exact (Ok.refl w).alloc _
 have HP:Hid (W.heap[gb]?=some (.cells #[Value.bool m,Value.slice ho q hc,Value.slice lo c lc] 54 (0,0))):=by unfold Hid;rw [hW,hgb];exact (by repeat (first | (refine heap_at _ _ _ ?hx; case hx => (first | (simp; done) | (simp; omega))) | (refine heap_past _ _ _ ?hy ?_; case hy => (first | (simp; done) | (simp; omega))) | fail))
 have HS:Hid (w.heap.size<=W.heap.size):=HK.out.le
 clear hW hgb
 have h0:Txt W W.heap.size (.slice none 0 0) []:=World.ownsRow_nil _ _ _ _
 refine (zm5 h0 n HN.out (Nat.le_refl _) (by simp) (HTB.out W _ HK.out HS.out)).mono ?_
 rintro e w1 ⟨v1,rfl,h1,h2,_⟩
 have HI:Hid (TxI W w1 v1 (Lib.itoa n)):=⟨h2,h1⟩
 clear h0 h1 h2
 have HP1:Hid _:=Ok.row' HI.out.ok HP.out
 obtain ⟨c0,c1,c2,c3,c4,c5⟩:=zb2 HP1.out
 have lgb:=za2 HP1.out
 obtain ⟨vo,vc,rfl⟩:=za0 HI.out.own
 cases m with
 | true =>
  go_wp2_with (first | (at_builtin;refine zk8 rfl _ _ 226 9 rfl Tryz.underlying226 Tryz.underlying9 W.heap.size _ (Lib.itoa n) (by rfl) HI.out.own [32,109,101,114,103,101,100] (by rfl) (by have:=Lib.itoa_length_le n HN.out.1 HN.out.2;simp;omega) HI.out.ok.le ?_;intro v2 w2 k1 k2;have HI2:Hid _:=HI.out.str k1 k2;clear k1 k2;have hcv:=HI2.out.own.conv (by simp)) | fail)
  go_ret
  rw [zZ9 HQ.out.1.symm]
  exact ⟨rfl,HK.out.step HI2.out.ok⟩
 | false =>
  have HLN:Hid (∀ k,k<=q->(txH n t.2.1 k).length<=3000000):=fun k hk=>by
   have h1:=zI6 (h:=t.2.1) HN.out HB.out.hi k (by rw [<-HQ.out.2.1];exact hk)
   have h2:=HB.out.hl
   have h3:=HQ.out.2.1
   omega
  have HLL:Hid (∀ k,k<=c->(txL n t.2.1 t.2.2 k).length<=9000000):=fun k hk=>by
   have h1:=zI7 (h:=t.2.1) (l:=t.2.2) HN.out HB.out.hi HB.out.li k (by rw [<-HQ.out.2.2];exact hk)
   have h2:=HB.out.hl
   have h4:=HB.out.ll
   have h3:=HQ.out.2.2
   omega
  go_wp2_with fail
  go_loopw [5,20] (fun t5 t20 wr=>∃ (k:Nat),t20=.int .i64 (k:Nat)/\k<=q/\Hid (TxI W wr t5 (txH n t.2.1 k))) (fun _ t20 _=>((q:Int)-intOf t20).toNat)
  case atStart=>exact ⟨0,rfl,Nat.zero_le _,by unfold Hid;rw [zO4];exact HI.out⟩
  case round =>
   clear c0 c1 c2 c3 c4 c5 lgb HP1
   obtain ⟨k,rfl,hk,HR⟩:=hrel
   have HP1:Hid _:=Ok.row' HR.out.ok HP.out
   obtain ⟨c0,c1,c2,c3,c4,c5⟩:=zb2 HP1.out
   have lgb:=za2 HP1.out
   by_cases hkl:k<q
   ·obtain ⟨x,hx⟩:∃ x,t.2.1[k]?=some x:=⟨_,List.getElem?_eq_getElem (by rw [<-HQ.out.2.1];exact hkl)⟩
    obtain ⟨b,o,cp,e1,e2,e3⟩:=HT.out.hist.at (by decide) (k:=k) (by rw [<-HQ.out.2.1];exact hkl)
    injection e1 with e4 e6 e5
    clear e6;subst e4 e5
    have r0:wr.cell? ⟨b,o+k,none⟩=some (.int .i64 x):=(HK.out.step HR.out.ok).cell (p:=⟨b,o+k,none⟩) e2 (e3 _ _ (zs5 hx))
    have HX:Hid (t.2.1[k]?=some x):=hx
    have HX6:Hid (I64 x):=HB.out.hi _ (List.mem_of_getElem? hx)
    have hlt:(k:Int)<(q:Int):=za6 hkl
    have kw:IntKind.i64.wrap ((k:Int)+1)=((k+1:Nat):Int):=zb6 (by have h1:=HB.out.hl;have h2:=HQ.out.2.1;omega)
    clear e2 e3 hx
    go_wp2_with (first | (at_builtin;refine zk8 rfl _ _ 226 9 rfl Tryz.underlying226 Tryz.underlying9 W.heap.size _ (txH n t.2.1 k) (by rfl) HR.out.own [32,105,102,32] (by rfl) (by have h1:=HLN.out k hk;simp;omega) HR.out.ok.le ?_;intro v2 w2 k1 k2;have HR2:Hid _:=HR.out.str k1 k2;clear k1 k2) | (go_at_call 139;refine (zm5 HR2.out.own x HX6.out HR2.out.ok.le (by have h1:=HLN.out k hk;simp;omega) (HTB.out _ _ (HK.out.step HR2.out.ok) HS.out)).mono ?_;rintro e w3 ⟨v3,rfl,k1,k2,_⟩;have HR3:Hid _:=HR2.out.num k1 k2;clear k1 k2) | fail)
    go_roundw
    case rel=>exact ⟨k+1,rfl,hkl,by unfold Hid;rw [zO5 HX.out];exact HR3.out⟩
    case measure=>exact meas hkl
   ·have hlt:¬(k:Int)<(q:Int):=zb3 hkl
    have HE:Hid _:=HR.out.as (show txH n t.2.1 k=txL n t.2.1 t.2.2 0 by rw [zO6,<-HQ.out.2.1,show q=k by omega])
    go_wp2_with fail
    obtain ⟨W3,hW3⟩:∃ z,z=wr:=⟨_,rfl⟩
    subst hW3
    go_loopw [5,32] (fun t5 t32 wr=>∃ (k:Nat),t32=.int .i64 (k:Nat)/\k<=c/\Hid (TxI W wr t5 (txL n t.2.1 t.2.2 k))) (fun _ t32 _=>((c:Int)-intOf t32).toNat)
    case atStart=>exact ⟨0,rfl,Nat.zero_le _,HE⟩
    case round =>
     clear c0 c1 c2 c3 c4 c5 lgb HP1 HE hlt hkl HR hk
     obtain ⟨k,rfl,hk,HR⟩:=hrel
     have HP1:Hid _:=Ok.row' HR.out.ok HP.out
     obtain ⟨c0,c1,c2,c3,c4,c5⟩:=zb2 HP1.out
     have lgb:=za2 HP1.out
     by_cases hkl:k<c
     ·obtain ⟨x,hx⟩:∃ x,t.2.2[k]?=some x:=⟨_,List.getElem?_eq_getElem (by rw [<-HQ.out.2.2];exact hkl)⟩
      obtain ⟨b,o,cp,e1,e2,e3⟩:=HT.out.loops.at (by decide) (k:=k) (by rw [<-HQ.out.2.2];exact hkl)
      injection e1 with e4 e6 e5
      clear e6;subst e4 e5
      have r0:wr.cell? ⟨b,o+k*2,none⟩=some (.int .i64 x.1):=(HK.out.step HR.out.ok).cell (p:=⟨b,o+k*2,none⟩) e2 (e3 _ _ (zs3 _ _ _ hx).1)
      have r1:wr.cell? ⟨b,o+k*2+1,none⟩=some (.int .i64 x.2):=(HK.out.step HR.out.ok).cell (p:=⟨b,o+k*2+1,none⟩) e2 (e3 (k*2+1) _ (zs3 _ _ _ hx).2)
      have HX:Hid (t.2.2[k]?=some x):=hx
      have HX6:Hid (I64 x.1/\I64 x.2):=HB.out.li _ (List.mem_of_getElem? hx)
      have hlt:(k:Int)<(c:Int):=za6 hkl
      have kw:IntKind.i64.wrap ((k:Int)+1)=((k+1:Nat):Int):=zb6 (by have h1:=HB.out.ll;have h2:=HQ.out.2.2;omega)
      clear e2 e3 hx
      go_upto_region 12 with (fail)
      obtain ⟨Y,hY⟩:∃ z,z=wr.alloc (Obj.cells #[.int .i64 x.1,.int .i64 x.2] 214):=⟨_,rfl⟩
      obtain ⟨g9,hg9⟩:∃ z,z=wr.heap.size:=⟨_,rfl⟩
      rw [<-hY,<-hg9]
      have HY:Hid (Y.heap[g9]?=some (.cells #[Value.int IntKind.i64 x.1,Value.int IntKind.i64 x.2] 214 (0,0))):=by unfold Hid;rw [hY,hg9];exact (by repeat (first | (refine heap_at _ _ _ ?hx; case hx => (first | (simp; done) | (simp; omega))) | (refine heap_past _ _ _ ?hy ?_; case hy => (first | (simp; done) | (simp; omega))) | fail))
      have HRY:Hid _:=HR.out.alloc (Obj.cells #[.int .i64 x.1,.int .i64 x.2] 214)
      rw [<-hY] at HRY
      clear hY hg9 c0 c1 c2 c3 c4 c5 lgb r0 r1
      obtain ⟨d0,d1,d2,d3⟩:=zd3 HY.out
      have HD2:Hid _:=HRY.out.drew
      have HYD2:Hid (Y.drew.heap[g9]?=some (.cells #[Value.int IntKind.i64 x.1,Value.int IntKind.i64 x.2] 214 (0,0))):=HY.out
      go_region_held3 (fun w'=>w'.cell? ⟨g9,0,none⟩=some (.int .i64 x.1)) (go_keep) (first | (refine zn1 (by rfl) _ _ 226 9 (by rfl) Tryz.underlying226 Tryz.underlying9 W.heap.size _ (txL n t.2.1 t.2.2 k) (by rfl) HD2.out.own [32,119,104,105,108,101,32] (by rfl) (by have h1:=HLL.out k hk;have h2:=Lib.itoa_length_le _ HX6.out.1.1 HX6.out.1.2;simp;omega) HD2.out.ok.le ?_;intro v2 w2 k1 k2;have HR2:Hid _:=HD2.out.str k1 k2;have HY2:Hid _:=zm6 (HD2.out.own.others k2) HYD2.out (by decide);clear k1 k2 d0 d1 d2 d3;obtain ⟨d0,d1,d2,d3⟩:=zd3 HY2.out) | (go_at_call 139;refine (zm5 HR2.out.own x.1 HX6.out.1 HR2.out.ok.le (by have h1:=HLL.out k hk;have h2:=Lib.itoa_length_le _ HX6.out.1.1 HX6.out.1.2;simp;omega) (HTB.out _ _ (HK.out.step HR2.out.ok) HS.out)).mono ?_;rintro e w3 ⟨v3,rfl,k1,k2,k3⟩;have HR3:Hid _:=HR2.out.num k1 k2;have HY3:Hid _:=zm6 k3 HY2.out (by decide);clear k1 k2 k3 d0 d1 d2 d3;obtain ⟨d0,d1,d2,d3⟩:=zd3 HY3.out) | fail)
      go_upto_region 13 with (fail)
      have HD4:Hid _:=HR3.out.drew
      have HYD4:Hid (w3.drew.heap[g9]?=some (.cells #[Value.int IntKind.i64 x.1,Value.int IntKind.i64 x.2] 214 (0,0))):=HY3.out
      go_region_held3 (fun w'=>w'.cell? ⟨g9,1,none⟩=some (.int .i64 x.2)) (go_keep) (first | (refine zn1 (by rfl) _ _ 226 9 (by rfl) Tryz.underlying226 Tryz.underlying9 W.heap.size _ ((txL n t.2.1 t.2.2 k++[32,119,104,105,108,101,32])++Lib.itoa x.1) (by rfl) HD4.out.own [32,114,111,117,110,100,32] (by rfl) (by have h1:=HLL.out k hk;have h2:=Lib.itoa_length_le _ HX6.out.1.1 HX6.out.1.2;simp;omega) HD4.out.ok.le ?_;intro v4 w4 k1 k2;have HR4:Hid _:=HD4.out.str k1 k2;have HY4:Hid _:=zm6 (HD4.out.own.others k2) HYD4.out (by decide);clear k1 k2 d0 d1 d2 d3;obtain ⟨d0,d1,d2,d3⟩:=zd3 HY4.out) | (go_at_call 139;refine (zm5 HR4.out.own x.2 HX6.out.2 HR4.out.ok.le (by have h1:=HLL.out k hk;have h2:=Lib.itoa_length_le _ HX6.out.1.1 HX6.out.1.2;simp;omega) (HTB.out _ _ (HK.out.step HR4.out.ok) HS.out)).mono ?_;rintro e w5 ⟨v5,rfl,k1,k2,k3⟩;have HR5:Hid _:=HR4.out.num k1 k2;have HY5:Hid _:=zm6 k3 HY4.out (by decide);clear k1 k2 k3 d0 d1 d2 d3;obtain ⟨d0,d1,d2,d3⟩:=zd3 HY5.out) | fail)
      go_wp2_with fail
      go_roundw
      case rel=>exact ⟨k+1,rfl,hkl,by unfold Hid;rw [zO7 HX.out];exact HR5.out⟩
      case measure=>exact meas hkl
     ·have hlt:¬(k:Int)<(c:Int):=zb3 hkl
      have HE:Hid _:=HR.out.as (show txL n t.2.1 t.2.2 k=txtV Lib.itoa (n,t) by rw [<-zI5 HQ.out.1.symm,<-HQ.out.2.2,show c=k by omega])
      have hcv:=HE.out.own.conv (by rw [<-zI5 HQ.out.1.symm];unfold txL;rw [List.length_append];have:=yw8 n t.2.1 t.2.1.length;omega)
      go_wp2_with fail
      go_ret
      exact ⟨rfl,HK.out.step HE.out.ok⟩
end
section
open Go.RowKit Go.Maps
theorem gzero3 (w:World):(zeroValue 3).run Tryz.prog w=.ok (.int .i64 0) w:=by kernel_rfl
theorem gwf {v:Int} (h0 : -9223372036854775808<=v) (h1:v<=9223372036854775807):(Lit.int .i64 v).wf=true:=by
 have e1:IntKind.i64.min = -9223372036854775808:=by decide
 have e2:IntKind.i64.max=9223372036854775807:=by decide
 simp only [Lit.wf,e1,e2]
 simp [h0,h1]
structure MI (k:TypeId) (D:DataW Unit) (f:Value->Option Int):Prop where
 mp:IsMap D
 val:∀ key kl,keyOf Tryz.prog k key=some kl->Maps.has D kl=(f key).isSome/\D.atKey kl (.lit (.int .i64 0))=.lit (.int .i64 ((f key).getD 0))
theorem MI.nil (k:TypeId):MI k (.map []) (fun _=>Option.none):=⟨⟨[],rfl⟩,fun key kl _=>⟨rfl,rfl⟩⟩
theorem MI.put {k:TypeId} (K:Keyed Tryz.prog k) {D:DataW Unit} {f f':Value->Option Int} (h:MI k D f) {key:Value} {kl:Lit} (hk:keyOf Tryz.prog k key=some kl) {y:Int} (h1:f' key=some y) (h2:∀ u,u≠key->f' u=f u):MI k (D.put kl (.lit (.int .i64 y))) f':=by
 refine ⟨?_,fun u ul hu=>?_⟩
 ·obtain ⟨es,rfl⟩:=h.mp
  exact ⟨_,DataW.put_eq _ _ _⟩
 ·by_cases e:u=key
  ·subst e
   rw [hk] at hu
   injection hu with hu
   subst hu
   rw [h1]
   exact ⟨has_put_same h.mp (K.key hk) _,atKey_put_same h.mp (K.key hk) _ _⟩
  ·have hne:ul≠kl:=fun e1=>by subst e1;exact e (K.inj hu hk)
   rw [has_put_other hne,atKey_put_other hne,h2 u e]
   exact h.val u ul hu
def MapF (w:World) (k:TypeId) (b N:Nat) (f:Value->Option Int):Prop:=∃ n D,n<=N/\w.ownsMap Tryz.prog k (plainElem Tryz.prog 3) b n D/\MI k D f
theorem MapF.made (w:World) (k:TypeId):MapF (w.alloc (.map #[] 0)) k w.heap.size 0 (fun _=>Option.none):=⟨0,_,Nat.le_refl _,World.ownsMap_made w Tryz.prog k _,MI.nil k⟩
theorem MapF.lt {w:World} {k:TypeId} {b N:Nat} {f:Value->Option Int} (h:MapF w k b N f):b<w.heap.size:=by obtain ⟨n,D,_,h1,_⟩:=h;exact h1.lt
theorem MapF.kept {w w':World} {k:TypeId} {b N:Nat} {f:Value->Option Int} {r:Option Nat} (h:MapF w k b N f) (hg:w.grownBy w' r) (hne:some b≠r):MapF w' k b N f:=by
 obtain ⟨n,D,h0,h1,h2⟩:=h;exact ⟨n,D,h0,h1.kept hg hne,h2⟩
theorem MapF.ok {w w':World} {k:TypeId} {b N:Nat} {f:Value->Option Int} (h:MapF w k b N f) (hb:Ok w w'):MapF w' k b N f:=h.kept (zK3 hb) (by simp)
theorem MapF.alloc {w:World} {k:TypeId} {b N:Nat} {f:Value->Option Int} (h:MapF w k b N f) (o:Obj):MapF (w.alloc o) k b N f:=by
 obtain ⟨n,D,h0,h1,h2⟩:=h;exact ⟨n,D,h0,h1.alloc o,h2⟩
theorem MapF.set {w:World} {k:TypeId} {b N:Nat} {f:Value->Option Int} (h:MapF w k b N f) {p:Addr} (hp:b≠p.block) (v:Value):MapF (w.setCell p v) k b N f:=by
 obtain ⟨n,D,h0,h1,h2⟩:=h;exact ⟨n,D,h0,h1.setCell hp v,h2⟩
theorem MapF.more {w:World} {k:TypeId} {b N M:Nat} {f:Value->Option Int} (h:MapF w k b N f) (hm:N<=M):MapF w k b M f:=by
 obtain ⟨n,D,h0,h1,h2⟩:=h;exact ⟨n,D,Nat.le_trans h0 hm,h1,h2⟩
theorem MapF.as {w:World} {k:TypeId} {b N:Nat} {f g:Value->Option Int} (h:MapF w k b N f) (hf:∀ key kl,keyOf Tryz.prog k key=some kl->g key=f key):MapF w k b N g:=by
 obtain ⟨n,D,h0,h1,h2⟩:=h;exact ⟨n,D,h0,h1,h2.mp,fun key kl hk=>by rw [hf key kl hk];exact h2.val key kl hk⟩
theorem MapF.look_ok {w:World} {k t:TypeId} {b N:Nat} {f:Value->Option Int} (h:MapF w k b N f) (K:Keyed Tryz.prog k) (ht:Tryz.prog.underlying t=some (.map k 3)) {key:Value} {kl:Lit} (hk:keyOf Tryz.prog k key=some kl) :
  (Instr.lookup t (.map (some b)) key true).run Tryz.prog w=.ok (.tuple #[.int .i64 ((f key).getD 0),.bool (f key).isSome]) w:=by
 obtain ⟨n,D,_,hD,hS⟩:=h
 obtain ⟨u,ps,hrun,hu⟩:=hD.look_ok K ht (gzero3 w) (plainElem_int Tryz.underlying3 (by decide)) hk
 obtain ⟨e1,e2⟩:=hS.val key kl hk
 rw [e2] at hu
 obtain ⟨a,rfl,e,_⟩:=plainElem_int_inv Tryz.underlying3 hu
 simp only [Prod.mk.injEq,DataW.lit.injEq,Lit.int.injEq,true_and] at e
 rw [hrun,e1,e.1]
theorem MapF.look {w:World} {k t:TypeId} {b N:Nat} {f:Value->Option Int} (h:MapF w k b N f) (K:Keyed Tryz.prog k) (ht:Tryz.prog.underlying t=some (.map k 3)) {key:Value} {kl:Lit} (hk:keyOf Tryz.prog k key=some kl) :
  (Instr.lookup t (.map (some b)) key false).run Tryz.prog w=.ok (.int .i64 ((f key).getD 0)) w:=by
 obtain ⟨n,D,_,hD,hS⟩:=h
 obtain ⟨u,ps,hrun,hu⟩:=hD.lookup K ht (gzero3 w) (plainElem_int Tryz.underlying3 (by decide)) hk
 obtain ⟨e1,e2⟩:=hS.val key kl hk
 rw [e2] at hu
 obtain ⟨a,rfl,e,_⟩:=plainElem_int_inv Tryz.underlying3 hu
 simp only [Prod.mk.injEq,DataW.lit.injEq,Lit.int.injEq,true_and] at e
 rw [hrun,e.1]
theorem MapF.put {w:World} {k t:TypeId} {b N:Nat} {f f':Value->Option Int} (h:MapF w k b N f) (K:Keyed Tryz.prog k) (ht:Tryz.prog.underlying t=some (.map k 3)) {key:Value} {kl:Lit} (hk:keyOf Tryz.prog k key=some kl) {y:Int} (h0 : -9223372036854775808<=y) (h1:y<=9223372036854775807) (hN:N<maxLen) (e1:f' key=some y) (e2:∀ u,u≠key->f' u=f u) :
  ∃ w',(Instr.mapUpdate t (.map (some b)) key (.int .i64 y)).run Tryz.prog w=.ok () w'/\MapF w' k b (N+1) f'/\w.grownBy w' (some b):=by
 obtain ⟨n,D,hn,hD,hS⟩:=h
 obtain ⟨w',hrun,hD',hg⟩:=hD.update K ht (by omega) hk (plainElem_int (a:=y) Tryz.underlying3 (gwf h0 h1))
 exact ⟨w',hrun,⟨n+1,_,by omega,hD',hS.put K hk e1 e2⟩,hg⟩
end
section
open Go.RowKit
theorem zl3 (H U:Int) (e:Ed) (i:Nat) (t:Tok):(stepT H U e i t).1=t.1:=by
 unfold stepT
 split
 ·rename_i h;rw [h];rfl
 ·rename_i h
  have h1:t.1=false:=by simpa using h
  rw [h1]
  repeat' split
  all_goals rfl
theorem ym2 {H U:Int} {e:Ed} {i:Nat} (h:e.op≠5) (t:Tok):stepT H U e i t=cpT t:=by
 obtain ⟨b,x,y⟩:=t
 cases b<;>simp [stepT,cpT,h]
theorem ya0 {H U:Int} {e:Ed} {i:Nat} (h:e.op=5) (hl:e.loop=false) (t:Tok):stepT H U e i t=remT H i t:=by
 obtain ⟨b,x,y⟩:=t
 cases b<;>simp [stepT,remT,h,hl]
theorem ya1 {H U:Int} {e:Ed} {i:Nat} (h:e.op=5) (hl:e.loop=true) (hs:e.sense=false) (t:Tok):stepT H U e i t=leaT e.from' t:=by
 obtain ⟨b,x,y⟩:=t
 cases b
 ·simp only [stepT,leaT,cpT,h,hl,hs]
  by_cases d:inLp (false,x,y) e.from'=true
  ·simp [d]
  ·simp [d]
 ·simp only [stepT,leaT,cpT]
  by_cases d:inLp (true,x,y) e.from'=true
  ·simp [d]
  ·simp [d]
theorem ya2 {H U:Int} {e:Ed} {i:Nat} (h:e.op=5) (hl:e.loop=true) (hs:e.sense=true) (hU:0<U) (t:Tok):stepT H U e i t=gorT e.from' U t:=by
 obtain ⟨b,x,y⟩:=t
 cases b<;>simp [stepT,gorT,h,hl,hs,hU]
theorem ym3 {H U:Int} {e:Ed} {i:Nat} (h:e.op=5) (hl:e.loop=true) (hs:e.sense=true) (hU:¬0<U) (t:Tok):stepT H U e i t=cpT t:=by
 obtain ⟨b,x,y⟩:=t
 cases b<;>simp [stepT,cpT,h,hl,hs,hU]
def StepV (w:World) (v:Value) (f:Tok->Tok):Prop:=∃ (fid:Nat) (caps:Array Value),v=.func (.func fid) #[] caps/\(∀ (args:Array Value) (Y:World),(callFunc fid args).run Tryz.prog Y=.ok (.enter fid args) Y) /\
 ∀ (Y:World) (hv lv:Value) (t:Tok),Ok w Y->TokIs Y hv lv t->TkB 100000 t->Calls Tryz.prog fid (#[.agg #[.bool t.1,hv,lv]]++caps) Y fun e w'=>∃ hv' lv',e=.returned (.agg #[.bool (f t).1,hv',lv'])/\TokOwn w' Y.heap.size hv' lv' (f t)/\Ok Y w'
theorem StepV.ok {w w':World} {v:Value} {f:Tok->Tok} (h:StepV w v f) (hk:Ok w w'):StepV w' v f:=by
 obtain ⟨fid,caps,h1,h2,h3⟩:=h
 exact ⟨fid,caps,h1,h2,fun Y hv lv t hY=>h3 Y hv lv t (hk.step hY)⟩
theorem StepV.of {w:World} {fid:Nat} {caps:Array Value} {f g:Tok->Tok} (hen:∀ (args:Array Value) (Y:World),(callFunc fid args).run Tryz.prog Y=.ok (.enter fid args) Y) (hf:∀ t,(f t).1=t.1) (hg:∀ t,f t=g t)
  (h:∀ (Y:World) (hv lv:Value) (t:Tok),Ok w Y->TokIs Y hv lv t->TkB 100000 t->Calls Tryz.prog fid (#[.agg #[.bool t.1,hv,lv]]++caps) Y fun e w'=>∃ hv' lv',e=.returned (.agg #[.bool t.1,hv',lv'])/\TokOwn w' Y.heap.size hv' lv' (g t)/\Ok Y w'):StepV w (.func (.func fid) #[] caps) f :=
 ⟨fid,caps,rfl,hen,fun Y hv lv t hY ht hb=>by rw [hf t,hg t];exact h Y hv lv t hY ht hb⟩
theorem TkB.sz {t:Tok} (h:TkB 100000 t):t.2.1.length*8+8<=140737488355328/\t.2.2.length*16+16<=140737488355328:=by
 have h1:=h.hl
 have h2:=h.ll
 omega
theorem yw9 (w:World) {f:Tok->Tok} (hf:∀ t,(f t).1=t.1) (hg:∀ t,f t=cpT t):StepV w (.func (.func 82) #[] #[]) f :=
 StepV.of (fun args Y=>by kernel_rfl) hf hg fun Y hv lv t hY ht hb=>zi2 hv lv t Y ht (by have:=hb.sz;omega)
theorem ym4 {w:World} {gm ge:Nat} {H i:Int} (hm:w.cell? ⟨gm,0,none⟩=some (.int .i64 H)) (he:w.cell? ⟨ge,0,none⟩=some (.int .i64 i)) (lm:gm<w.heap.size) (le:ge<w.heap.size) {f:Tok->Tok} (hf:∀ t,(f t).1=t.1) (hg:∀ t,f t=remT H i t):StepV w (.func (.func 121) #[] #[.pointer (some ⟨gm,0,none⟩),.pointer (some ⟨ge,0,none⟩)]) f :=
 StepV.of (fun args Y=>by kernel_rfl) hf hg fun Y hv lv t hY ht hb=>zz5 hv lv t gm ge H i Y ht (by have:=hb.sz;omega) (hY.cell (p:=⟨gm,0,none⟩) lm hm) (hY.cell (p:=⟨ge,0,none⟩) le he) (Nat.lt_of_lt_of_le lm hY.le) (Nat.lt_of_lt_of_le le hY.le)
theorem ym5 {w:World} {gh:Nat} {h:Int} (hm:w.cell? ⟨gh,0,none⟩=some (.int .i64 h)) (lm:gh<w.heap.size) {f:Tok->Tok} (hf:∀ t,(f t).1=t.1) (hg:∀ t,f t=leaT h t):StepV w (.func (.func 122) #[] #[.pointer (some ⟨gh,0,none⟩)]) f :=
 StepV.of (fun args Y=>by kernel_rfl) hf hg fun Y hv lv t hY ht hb=>zS0 hv lv t gh h Y ht (by have:=hb.sz;omega) (hY.cell (p:=⟨gh,0,none⟩) lm hm) (Nat.lt_of_lt_of_le lm hY.le)
theorem ym6 {w:World} {gm ge:Nat} {h U:Int} (hm:w.cell? ⟨gm,0,none⟩=some (.int .i64 h)) (he:w.cell? ⟨ge,0,none⟩=some (.int .i64 U)) (lm:gm<w.heap.size) (le:ge<w.heap.size) (hU:0<U/\U<=1000) {f:Tok->Tok} (hf:∀ t,(f t).1=t.1) (hg:∀ t,f t=gorT h U t):StepV w (.func (.func 124) #[] #[.pointer (some ⟨gm,0,none⟩),.pointer (some ⟨ge,0,none⟩)]) f :=
 StepV.of (fun args Y=>by kernel_rfl) hf hg fun Y hv lv t hY ht hb=>zE5 hv lv t gm ge U h Y ht (by have:=hb.sz;omega) (hY.cell (p:=⟨gm,0,none⟩) lm hm) (hY.cell (p:=⟨ge,0,none⟩) le he) (Nat.lt_of_lt_of_le lm hY.le) (Nat.lt_of_lt_of_le le hY.le) hU (fun x hx=>(hb.li x hx).2.1)
end
section
open Go.RowKit Go.Maps
def vxL (vs:List Vx) (tl:List (Value×Value)):List Value:=(vs.zip tl).flatMap fun x=>[.int .i64 x.1.1,.bool x.1.2.1,x.2.1,x.2.2]
def lkL (ls:List Lk):List Value:=ls.flatMap fun l=>[.int .i64 (l.1:Nat),.int .i64 (l.2.1:Nat),.int .i64 (l.2.2:Nat)]
theorem yx0 {vs:List Vx} {tl:List (Value×Value)} (h:tl.length=vs.length) (v:Vx) (x:Value×Value):vxL (vs++[v]) (tl++[x])=vxL vs tl++[.int .i64 v.1,.bool v.2.1,x.1,x.2]:=by
 unfold vxL
 rw [List.zip_append h.symm,List.flatMap_append]
 simp
theorem ya3 (ls:List Lk) (l:Lk):lkL (ls++[l])=lkL ls++[.int .i64 (l.1:Nat),.int .i64 (l.2.1:Nat),.int .i64 (l.2.2:Nat)]:=by simp [lkL]
theorem zI8:∀ {vs:List Vx} {tl:List (Value×Value)} {k:Nat} {v:Vx} {x:Value×Value},vs[k]?=some v->tl[k]?=some x->(vxL vs tl)[k*4]?=some (.int .i64 v.1)/\(vxL vs tl)[k*4+1]?=some (.bool v.2.1)/\(vxL vs tl)[k*4+2]?=some x.1/\(vxL vs tl)[k*4+3]?=some x.2
 | [],tl,k,v,x,h,_=>by simp at h
 | _::_,[],k,v,x,_,h=>by simp at h
 | u::vs,y::tl,k,v,x,h,h'=>by
  have e:vxL (u::vs) (y::tl)=.int .i64 u.1::.bool u.2.1::y.1::y.2::vxL vs tl:=by simp [vxL]
  cases k with
  | zero =>
   simp only [List.getElem?_cons_zero,Option.some.injEq] at h h'
   subst h h'
   rw [e]
   exact ⟨rfl,rfl,rfl,rfl⟩
  | succ k =>
   simp only [List.getElem?_cons_succ] at h h'
   obtain ⟨h1,h2,h3,h4⟩:=zI8 h h'
   rw [e,show (k+1)*4=k*4+1+1+1+1 by omega]
   exact ⟨h1,h2,h3,h4⟩
theorem zz7:∀ {ls:List Lk} {k:Nat} {l:Lk},ls[k]?=some l->(lkL ls)[k*3]?=some (.int .i64 (l.1:Nat))/\(lkL ls)[k*3+1]?=some (.int .i64 (l.2.1:Nat))/\(lkL ls)[k*3+2]?=some (.int .i64 (l.2.2:Nat))
 | [],k,l,h=>by simp at h
 | u::ls,k,l,h=>by
  have e:lkL (u::ls)=.int .i64 (u.1:Nat)::.int .i64 (u.2.1:Nat)::.int .i64 (u.2.2:Nat)::lkL ls:=by simp [lkL]
  cases k with
  | zero =>
   simp only [List.getElem?_cons_zero,Option.some.injEq] at h
   subst h
   rw [e]
   exact ⟨rfl,rfl,rfl⟩
  | succ k =>
   simp only [List.getElem?_cons_succ] at h
   obtain ⟨h1,h2,h3⟩:=zz7 h
   rw [e,show (k+1)*3=k*3+1+1+1 by omega]
   exact ⟨h1,h2,h3⟩
def cnL (N:Nat) (vs:List Vx):List Int:=(List.range N).map fun (n:Nat)=>((many vs (n:Int):Nat):Int)
theorem zI9 {N n:Nat} (vs:List Vx) (h:n<N):(cnL N vs)[n]?=some ((many vs (n:Int):Nat):Int):=by
 unfold cnL
 rw [List.getElem?_map,List.getElem?_range h]
 rfl
theorem yx1 {N k:Nat} (vs:List Vx) (t:Tok) (h:k<N):cnL N (vs++[((k:Int),t)])=(cnL N vs).set k (((many vs (k:Int):Nat):Int)+1):=by
 apply List.ext_getElem?
 intro j
 by_cases hj:j<N
 ·rw [zI9 _ hj,zO0,List.getElem?_set]
  by_cases e:k=j
  ·subst e
   rw [if_pos rfl,if_pos rfl,if_pos (by unfold cnL;rw [List.length_map,List.length_range];exact h)]
   simp
  ·rw [if_neg (by show ¬((k:Int)=(j:Int));omega),if_neg e,zI9 _ hj]
   rfl
 ·rw [List.getElem?_eq_none (by unfold cnL;rw [List.length_map,List.length_range];omega),List.getElem?_eq_none (by rw [List.length_set];unfold cnL;rw [List.length_map,List.length_range];omega)]
def txF (vs:List Vx):Value->Option Int
 | .string s=>(vs.findIdx? fun v=>decide (txtV Lib.itoa v=s.data.toList)).map fun k=>(k:Int)
 | _=>Option.none
theorem zo3 {α:Type} {p q:α->Bool}:∀ {l:List α},(∀ x∈l,p x=q x)->l.findIdx? p=l.findIdx? q
 | [],_=>rfl
 | a::l,h=>by
  rw [List.findIdx?_cons,List.findIdx?_cons,h a List.mem_cons_self,zo3 fun x hx=>h x (List.mem_cons_of_mem _ hx)]
def keyX (v:Vx):Value:=.string ⟨(txtV Lib.itoa v).toArray⟩
theorem ya4 {vs:List Vx} (hv:∀ v∈vs,TokOk v.2) {v:Vx} (h:TokOk v.2):txF vs (keyX v)=(look vs v).map fun k=>(k:Int):=by
 show ((vs.findIdx? fun x=>decide (txtV Lib.itoa x=(txtV Lib.itoa v))).map fun k=>(k:Int))=_
 unfold look
 rw [zo3 (q:=fun x=>decide (x=v)) fun x hx=>?_]
 exact decide_eq_decide.2 ⟨fun e=>ym0 zO3 (hv x hx) h e,fun e=>by rw [e]⟩
theorem ya5 {vs:List Vx} (hv:∀ v∈vs,TokOk v.2) {v:Vx} (h:TokOk v.2) (hn:look vs v=Option.none):txF (vs++[v]) (keyX v)=some ((vs.length:Nat):Int):=by
 have hv':∀ x∈vs++[v],TokOk x.2:=fun x hx=>by
  rcases List.mem_append.1 hx with h1 | h1
  ·exact hv x h1
  ·rw [List.mem_singleton.1 h1];exact h
 rw [ya4 hv' h]
 unfold look at hn ⊢
 rw [List.findIdx?_append,hn]
 simp [List.findIdx?_cons]
theorem yx2 {vs:List Vx} {v:Vx} {u:Value} (hu:u≠keyX v):txF (vs++[v]) u=txF vs u:=by
 unfold txF
 split
 ·rename_i s
  rw [List.findIdx?_append]
  have:¬txtV Lib.itoa v=s.data.toList:=fun e=>hu (by
   unfold keyX
   rw [e])
  cases vs.findIdx? fun v=>decide (txtV Lib.itoa v=s.data.toList) with
  | some k=>rfl
  | none=>simp [List.findIdx?_cons,this]
 ·rfl
theorem yx3 {v:Vx} (h:(txtV Lib.itoa v).length<=100000000):keyOf Tryz.prog 9 (keyX v)=some (.string (txtV Lib.itoa v)):=by
 have e:(⟨(txtV Lib.itoa v).toArray⟩:ByteArray).size=(txtV Lib.itoa v).length:=by simp [ByteArray.size]
 have:=WideMaps.keyOf_string_mk (P:=Tryz.prog) Tryz.underlying9 (s:=⟨(txtV Lib.itoa v).toArray⟩) (by rw [e];unfold maxLen;omega)
 simpa [keyX] using this
theorem law9:Keyed Tryz.prog 9:=string_keyed Tryz.underlying9
theorem yx4 {n:Int} {t:Tok} (hn:I64 n) (h:TkB 100000 t):(txtV Lib.itoa (n,t)).length<=100000000:=by
 cases hm:t.1 with
 | true =>
  rw [zZ9 hm,List.length_append]
  have:=Lib.itoa_length_le n hn.1 hn.2
  simp
  omega
 | false =>
  rw [<-zI5 hm]
  have h1:=zI7 (h:=t.2.1) (l:=t.2.2) hn h.hi h.li _ (Nat.le_refl _)
  have h2:=h.hl
  have h3:=h.ll
  omega
def VsOwn (w:World) (B:Nat) (vv:Value) (vs:List Vx):Prop:=∃ tl:List (Value×Value),tl.length=vs.length/\w.ownsRow B 56 4 vv vs.length (vxL vs tl)/\∀ (i:Nat) (v:Vx) (x:Value×Value),vs[i]?=some v->tl[i]?=some x->TokOwn w B x.1 x.2 v.2
theorem VsOwn.ok {w w':World} {B:Nat} {vv:Value} {vs:List Vx} (h:VsOwn w B vv vs) (hk:Ok w w'):VsOwn w' B vv vs:=by
 obtain ⟨tl,h1,h2,h3⟩:=h
 exact ⟨tl,h1,za1 h2 hk,fun i v x hv hx=>(h3 i v x hv hx).ok hk⟩
structure FPar where
 gf:Nat
 gm:Nat
 gt:Nat
 B:Nat
 N:Nat
 ct:Nat
 a:Nat->Value
def FPar.row (F:FPar) (vv lv:Value):Array Value:=#[F.a 0,F.a 1,F.a 2,F.a 3,F.a 4,F.a 5,F.a 6,F.a 7,F.a 8,F.a 9,F.a 10,F.a 11,F.a 12,vv,lv,.map (some F.gm),.slice (some ⟨F.gt,0,none⟩) F.N F.ct]
structure FOk (w0:World) (F:FPar) (p:Pl):Prop where
 f0:w0.heap.size<=F.gf
 m0:w0.heap.size<=F.gm
 t0:w0.heap.size<=F.gt
 fB:F.gf<F.B
 mB:F.gm<F.B
 tB:F.gt<F.B
 fm:F.gf≠F.gm
 ft:F.gf≠F.gt
 mt:F.gm≠F.gt
 cap:F.a 9=.int .i64 (p.cap:Nat)
 mrg:∃ bm om cm,F.a 12=.slice (some ⟨bm,om,none⟩) F.N cm/\bm<w0.heap.size/\∀ n,n<F.N->w0.cell? ⟨bm,om+n,none⟩=some (.bool (p.mgd (n:Int)))
 tab:Lib.TabBelow Tryz.prog w0.heap.size w0 "internal/strconv.uint64pow10" .u64 Lib.pow10Tab
 small:F.N<=10000/\p.cap<=10
structure VJ (p:Pl) (vs:List Vx):Prop where
 tok:∀ v∈vs,TokOk v.2
 bnd:∀ (i:Nat) (v:Vx),vs[i]?=some v->TkB i v.2
 vi:VI p vs
structure FS (w0:World) (F:FPar) (w:World) (vv lv:Value) (vs vm vc:List Vx) (ls:List Lk):Prop where
 ok:Ok w0 w
 le:F.B<=w.heap.size
 row:w.heap[F.gf]?=some (.cells (F.row vv lv) 196 (0,0))
 vo:VsOwn w F.B vv vs
 lo:w.ownsRow F.B 43 3 lv ls.length (lkL ls)
 mp:MapF w 9 F.gm vm.length (txF vm)
 tk:w.ownsRow w0.heap.size 3 1 (.slice (some ⟨F.gt,0,none⟩) F.N F.ct) F.N (ilL (cnL F.N vc))
theorem FS.step {w0 w w':World} {F:FPar} {vv lv:Value} {vs vm vc:List Vx} {ls:List Lk} (h:FS w0 F w vv lv vs vm vc ls) (hk:Ok w w'):FS w0 F w' vv lv vs vm vc ls :=
 ⟨h.ok.step hk,Nat.le_trans h.le hk.le,Ok.row' hk h.row,h.vo.ok hk,za1 h.lo hk,h.mp.ok hk,za1 h.tk hk⟩
theorem zf4 {w:World} {B s n g:Nat} {e:TypeId} {v:Value} {xs:List Value} (h:w.ownsRow B e s v n xs) (hg:g<B):v.ownBlock≠some g:=fun e=>by
 have:=(h.lt g e).1
 omega
theorem VsOwn.far {w w':World} {B:Nat} {vv:Value} {vs:List Vx} (h:VsOwn w B vv vs) (hk:∀ b,B<=b->b<w.heap.size->w'.heap[b]?=w.heap[b]?):VsOwn w' B vv vs:=by
 obtain ⟨tl,h1,h2,h3⟩:=h
 exact ⟨tl,h1,zb4 h2 fun b hb=>hk b (h2.lt b hb).1 (h2.lt b hb).2,fun i v x hv hx=>⟨zb4 (h3 i v x hv hx).hist fun b hb=>hk b ((h3 i v x hv hx).hist.lt b hb).1 ((h3 i v x hv hx).hist.lt b hb).2,zb4 (h3 i v x hv hx).loops fun b hb=>hk b ((h3 i v x hv hx).loops.lt b hb).1 ((h3 i v x hv hx).loops.lt b hb).2⟩⟩
theorem yx5 (l:List Int) (k:Nat) (x:Int):ilL (l.set k x)=(ilL l).set k (.int .i64 x):=by unfold ilL;rw [List.map_set]
theorem FS.count {w0 w:World} {F:FPar} {p:Pl} {vv lv:Value} {vs vm vc:List Vx} {ls:List Lk} (h:FS w0 F w vv lv vs vm vc ls) (hF:FOk w0 F p) {k:Nat} (hk:k<F.N) (t:Tok) :
  FS w0 F (w.setCell ⟨F.gt,k,none⟩ (.int .i64 (((many vc (k:Int):Nat):Int)+1))) vv lv vs vm (vc++[((k:Int),t)]) ls:=by
 have hne:∀ b,b≠F.gt->(w.setCell ⟨F.gt,k,none⟩ (.int .i64 (((many vc (k:Int):Nat):Int)+1))).heap[b]?=w.heap[b]?:=fun b hb=>Below.heap_setCell _ _ _ _ hb
 refine ⟨h.ok.set hF.t0 _,by have:=h.le;simpa using this,(hne _ hF.ft).trans h.row,h.vo.far fun b hb _=>hne b (by have:=hF.tB;omega),zc8 h.lo (zf4 h.lo hF.tB) _,h.mp.set hF.mt _,?_⟩
 rw [yx1 _ _ hk,yx5]
 exact zz6 h.tk _ (by omega)
theorem FS.put {w0 w w':World} {F:FPar} {p:Pl} {vv lv:Value} {vs vm vc:List Vx} {ls:List Lk} (h:FS w0 F w vv lv vs vm vc ls) (hF:FOk w0 F p) {v:Vx} (hm:MapF w' 9 F.gm (vm.length+1) (txF (vm++[v]))) (hg:w.grownBy w' (some F.gm)) :
  FS w0 F w' vv lv vs (vm++[v]) vc ls:=by
 have hne:∀ b,b<w.heap.size->b≠F.gm->w'.heap[b]?=w.heap[b]?:=fun b hl hb=>hg.block b hl fun e=>hb (Option.some.inj e)
 refine ⟨h.ok.grown hg (fun b e=>by rw [<-Option.some.inj e];exact hF.m0),Nat.le_trans h.le hg.size,(hne _ (za2 h.row) hF.fm).trans h.row,h.vo.far fun b hb hl=>hne b hl (by have:=hF.mB;omega),zb4 h.lo fun b hb=>hne b (h.lo.lt b hb).2 (by have h1:=(h.lo.lt b hb).1;have h2:=hF.mB;omega),?_,zb4 h.tk fun b hb=>hne b (h.tk.lt b hb).2 (by cases hb;exact fun e=>hF.mt e.symm)⟩
 rw [List.length_append]
 exact hm
theorem ym7 (F:FPar) (vv lv v':Value):(F.row vv lv).setIfInBounds 13 v'=F.row v' lv:=rfl
theorem ya6 (F:FPar) (vv lv v':Value):(F.row vv lv).setIfInBounds 14 v'=F.row vv v':=rfl
theorem FS.push {w0 w w':World} {F:FPar} {p:Pl} {vv lv vv':Value} {vs vm vc:List Vx} {ls:List Lk} (h:FS w0 F w vv lv vs vm vc ls) (hF:FOk w0 F p) {v:Vx} {x:Value×Value} {tl:List (Value×Value)} (htl:tl.length=vs.length) (hvo:w.ownsRow F.B 56 4 vv vs.length (vxL vs tl)) (hold:∀ (i:Nat) (v:Vx) (x:Value×Value),vs[i]?=some v->tl[i]?=some x->TokOwn w F.B x.1 x.2 v.2) (hx:TokOwn w F.B x.1 x.2 v.2)
  (hv:w'.ownsRow F.B 56 4 vv' (vs.length+1) (vxL vs tl++[.int .i64 v.1,.bool v.2.1,x.1,x.2])) (hg:w.grownBy w' vv.ownBlock):FS w0 F (w'.setCell ⟨F.gf,13,none⟩ vv') vv' lv (vs++[v]) vm vc ls:=by
 have hb:∀ b,b<F.B->w'.heap[b]?=w.heap[b]?:=fun b hl=>hg.block b (Nat.lt_of_lt_of_le hl h.le) fun e=>zf4 hvo hl e.symm
 have hs:∀ b,b≠F.gf->(w'.setCell ⟨F.gf,13,none⟩ vv').heap[b]?=w'.heap[b]?:=fun b hb=>Below.heap_setCell _ _ _ _ hb
 have hc:∀ (y:Value×Value) (u:Tok),TokOwn w F.B y.1 y.2 u->TokOwn (w'.setCell ⟨F.gf,13,none⟩ vv') F.B y.1 y.2 u:=fun y u hy=>⟨zc8 (zd6 hy.hist hvo (by decide) hg) (zf4 hy.hist hF.fB) _,zc8 (zd6 hy.loops hvo (by decide) hg) (zf4 hy.loops hF.fB) _⟩
 refine ⟨(h.ok.grown hg (fun b e=>by have h1:=(hvo.lt b e).1;have h2:=hF.f0;have h3:=hF.fB;omega)).set hF.f0 _,by have h1:=h.le;have h2:=hg.size;simp;omega,?_,?_,zc8 (zd6 h.lo hvo (by decide) hg) (zf4 h.lo hF.fB) _,(h.mp.kept hg (fun e=>zf4 hvo hF.mB e.symm)).set (fun e=>hF.fm e.symm) _,zc8 (zb4 h.tk fun b e=>by cases e;exact hb _ hF.tB) (fun e=>hF.ft (Option.some.inj e).symm) _⟩
 ·rw [<-ym7 F vv lv vv']
  exact heap_setCell_same _ _ _ _ _ _ ((hb _ hF.fB).trans h.row)
 ·refine ⟨tl++[x],by rw [List.length_append,List.length_append,htl];rfl,?_,?_⟩
  ·rw [yx0 htl,List.length_append,List.length_singleton]
   exact zc8 hv (zf4 hv hF.fB) _
  ·intro i u y hu hy
   by_cases c:i<vs.length
   ·rw [List.getElem?_append_left c] at hu
    rw [List.getElem?_append_left (by omega)] at hy
    exact hc y _ (hold i u y hu hy)
   ·rw [List.getElem?_append_right (by omega)] at hu
    rw [List.getElem?_append_right (by omega),htl] at hy
    by_cases d:i=vs.length
    ·subst d
     simp only [Nat.sub_self,List.getElem?_cons_zero,Option.some.injEq] at hu hy
     subst hu hy
     exact hc x _ hx
    ·rw [List.getElem?_eq_none (by simp;omega)] at hu
     cases hu
theorem FS.cells {w0 w:World} {F:FPar} {p:Pl} {vv lv:Value} {vs vm vc:List Vx} {ls:List Lk} (h:FS w0 F w vv lv vs vm vc ls) (hF:FOk w0 F p) :
  w.cell? ⟨F.gf,9,none⟩=some (.int .i64 (p.cap:Nat))/\w.cell? ⟨F.gf,12,none⟩=some (F.a 12)/\w.cell? ⟨F.gf,13,none⟩=some vv/\w.cell? ⟨F.gf,14,none⟩=some lv/\w.cell? ⟨F.gf,15,none⟩=some (.map (some F.gm))/\w.cell? ⟨F.gf,16,none⟩=some (.slice (some ⟨F.gt,0,none⟩) F.N F.ct)/\(∀ o,w.frozen? ⟨F.gf,o,none⟩=false)/\F.gf<w.heap.size/\F.gt<w.heap.size/\(∀ o,w.frozen? ⟨F.gt,o,none⟩=false):=by
 refine ⟨(cell_of_row _ _ 9 _ _ _ h.row).trans (by rw [<-hF.cap];rfl),(cell_of_row _ _ 12 _ _ _ h.row).trans rfl,(cell_of_row _ _ 13 _ _ _ h.row).trans rfl,(cell_of_row _ _ 14 _ _ _ h.row).trans rfl,(cell_of_row _ _ 15 _ _ _ h.row).trans rfl,(cell_of_row _ _ 16 _ _ _ h.row).trans rfl,fun o=>frozen_of_row _ _ _ _ _ h.row,za2 h.row,(h.tk.lt _ rfl).2,fun o=>?_⟩
 rcases h.tk.2 with ⟨e1,_⟩ | ⟨g',cap,cur,e1,_,hgg,_⟩
 ·cases e1
 ·injection e1 with e5 _ _
  injection e5 with e5
  injection e5 with e5
  rw [<-e5] at hgg
  exact frozen_of_row _ _ _ _ _ hgg
theorem FS.cnt {w0 w:World} {F:FPar} {vv lv:Value} {vs vm vc:List Vx} {ls:List Lk} (h:FS w0 F w vv lv vs vm vc ls) {k:Nat} (hk:k<F.N):w.cell? ⟨F.gt,k,none⟩=some (.int .i64 (many vc (k:Int):Nat)):=by
 have h1:=h.tk.cells (g:=F.gt) rfl k _ (zs5 (zI9 vc hk))
 rw [zc0,Nat.zero_add] at h1
 exact h1
end
end Go.Proofs.YtenoopfeplalnaaGreatDoor
