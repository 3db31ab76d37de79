import Derived.Laws.AppendOwnNone
import Derived.Deep.AppendLies
import Derived.Lib.SmallJoins
import Derived.Test.YtpjpjhjjhoeijaaGreatKNpd
import Derived.Test.YtpjpjhjjhoeijaaGreatKNpn
import Derived.Test.YtpjpjhjjhoeijaaGreatKNps
import Derived.Test.YtpjpjhjjhoeijaaGreatKNq
import Derived.Test.YtpjpjhjjhoeijaaGreatKNx
import Derived.Test.YtpjpjhjjhoeijaaGreatKRz
set_option linter.all false
namespace Go.Proofs.YtpjpjhjjhoeijaaGreat
section
open Go.RowKit
theorem own_below {w w1:World} {B:Nat} {e:TypeId} {size:Nat} {v:Value} {n:Nat} {xs:List Value} (h:w.ownsRow B e size v n xs) (hb:Below w.heap.size w w1):w1.ownsRow B e size v n xs:=by
 refine ⟨h.1,?_⟩
 rcases h.2 with hn | ⟨g,cap,cur,hv,hB,hg,rest⟩
 ·exact .inl hn
 ·exact .inr ⟨g,cap,cur,hv,hB,(hb.block g (Array.getElem?_eq_some_iff.1 hg).1).trans hg,rest⟩
theorem own_base {w:World} {B:Nat} {e:TypeId} {size:Nat} {v:Value} {n:Nat} {xs:List Value} (h:w.ownsRow B e size v n xs):∀ k,v.ownBlock=some k->B<=k:=fun k hk=>(World.ownsRow.lt h k hk).1
def intsV (xs:List Int):List Value:=xs.map fun x=>Value.int .i64 x
theorem JinfoN:(Tryz.prog.info? 2).map (fun i=>(i.zero,i.size,i.bytes))=some (some (.int .i64 0),1,8):=by kernel_rfl
theorem own_ints {w:World} {base:Nat} {v:Value} {k:Nat} {xs:List Int} (h:w.ownsRow base 2 1 v k (intsV xs)) (hx:xs.length=k) (hk:0<k) (hm:k<=4611686018427387904) :
  ∃ g cap:Nat,v=.slice (some ⟨g,0,none⟩) k cap/\IntsAt w g 0 xs/\base<=g/\k<=cap:=by
 have hc:=fun g (hg:v.ownBlock=some g)=>World.ownsRow.cells h hg
 rcases h.2 with ⟨_,h0⟩ | ⟨g,cap,cur,rfl,hB,hg,hcap,_⟩
 ·omega
 ·refine ⟨g,cap,rfl,⟨?_,lt_rowV hg,by omega⟩,hB,hcap⟩
  intro i hi
  have:=hc g rfl i (.int .i64 xs[i]) (by simp [intsV,hi])
  have hadd:(⟨g,0,none⟩:Addr).add i=⟨g,0+i,none⟩:=by unfold Addr.add;split<;>simp_all
  rw [hadd] at this
  exact this
theorem ints_one (xs:List Int):∀ u∈intsV xs,u.oneCell'=true:=by
 intro u hu
 obtain ⟨l,_,rfl⟩:=List.mem_map.1 hu
 rfl
theorem add_off (g o j:Nat):(⟨g,o,none⟩:Addr).add j=⟨g,o+j,none⟩:=by unfold Addr.add;split<;>simp_all
theorem wpList_append_ints {P:Program} {w:World} {ops:Array Oper} {rest:List Oper} {op:Oper} {a:Act} {Q:Exit->Act->World->Prop} (hgd:op.guard=none) (s x:Operand) (t:TypeId)
  (ho:op.op=.call { callee:=.builtin .append,args:=#[s,x],argTypes:=#[t,t] })
  (base:Nat) (e:TypeId) (i:TypeInfo) (z:Value) (ht:P.underlying t=some (.slice e)) (hi:P.info? e=some i) (hz:i.zero=some z)
  (hsize:i.size=1) (hby:i.bytes=8) (hzs:z.cells.size=1)
  (v:Value) (n:Nat) (xs:List Value) (hs:a.eval s=v) (hown:w.ownsRow base e 1 v n xs)
  (ao:Option Addr) (cap:Nat) (ts:List Int) (hx:a.eval x=.slice ao ts.length cap) (hT:SInts w (.slice ao ts.length cap) ts) (hao:ao=none->cap=0)
  (h63:n+ts.length<=maxLen) (hbytes:(n+ts.length)*8<=140737488355328) (hbase:base<=w.heap.size)
  (h:∀ v' w',w'.ownsRow base e 1 v' (n+ts.length) (xs++intsV ts)->w.grownBy w' v.ownBlock->wpList P ops Q rest (a.put op.dst v') w'):wpList P ops Q (op::rest) a w:=by
 cases ao with
 | none =>
  have hc:=hao rfl
  have hts:ts=[]:=by
   rcases hT with ⟨tb,o,cp,e,_⟩ | ⟨_,_,_,e⟩
   ·cases e
   ·exact e
  subst hts hc
  refine wpList_append_own_none hgd s x t ho base e i 1 ht hi v n xs hs hown hx (h v w ?_ (World.grownBy.refl w _))
  have:intsV []=[]:=rfl
  rw [this,List.append_nil]
  exact hown
 | some ad =>
  have hcells:∀ j u,(intsV ts)[j]?=some u->w.cell? (ad.add j)=some u:=by
   intro j u hu
   rcases hT with ⟨tb,o,cp,e,hI⟩ | ⟨_,_,_,e⟩
   ·injection e with e1 _ _
    injection e1 with e1
    subst e1
    obtain ⟨hj,hu⟩:=List.getElem?_eq_some_iff.1 hu
    have hj2:j<ts.length:=by simpa [intsV] using hj
    rw [add_off,hI.1 j hj2,<-hu]
    simp [intsV]
   ·subst e;cases hu
  refine wpList_append_own w hgd s x t ho base e i z 1 8 ht hi hz hsize hby hzs (by decide) v n xs hs hown ad ts.length cap (intsV ts) hx (by simp [intsV]) hcells (ints_one ts) h63 hbytes hbase ?_
  intro v' w' k1 k2 _
  exact h v' w' k1 k2
theorem own_sints {w:World} {base g n cap:Nat} {ts:List Int} {z:Int} (h:w.ownsRow base 2 1 (.slice (some ⟨g,0,none⟩) (n+1) cap) (n+1) (intsV (ts++[z]))) (hn:n=ts.length) (hm:n<=4611686018427387903):SInts w (.slice (some ⟨g,0,none⟩) n cap) ts:=by
 obtain ⟨g',cap',e,hI,_⟩:=own_ints h (by simp [hn]) (by omega) (by omega)
 injection e with e1 _ e3
 injection e1 with e1
 injection e1 with e1
 subst e1
 refine Or.inl ⟨g,0,cap,by rw [hn],?_,hI.2.1,by omega⟩
 intro i hi
 have:=hI.1 i (by simp;omega)
 rw [List.getElem_append_left hi] at this
 exact this
theorem own_row {w:World} {base g n cap:Nat} {xs:List Int} (h:w.ownsRow base 2 1 (.slice (some ⟨g,0,none⟩) n cap) n (intsV xs)) :
  ∃ cur:Array Value,base<=g/\w.heap[g]?=some (.cells cur 2 (0,0))/\n<=cap/\cap<=maxLen/\cur.size=cap*1/\cur.toList.take (n*1)=intsV xs:=by
 rcases h.2 with ⟨h,_⟩ | ⟨g',cp,cur,h,h1,h2,h3,h4,h5,h6⟩
 ·cases h
 ·injection h with e1 e2 e3
  injection e1 with e1
  injection e1 with e1
  subst e1 e3
  exact ⟨cur,h1,h2,h3,h4,h5,h6⟩
theorem own_set {w:World} {base g n cap:Nat} {xs:List Int} (h:w.ownsRow base 2 1 (.slice (some ⟨g,0,none⟩) n cap) n (intsV xs)) (j:Nat) (x:Int) :
  (w.setCell ⟨g,j,none⟩ (.int .i64 x)).ownsRow base 2 1 (.slice (some ⟨g,0,none⟩) n cap) n (intsV (xs.set j x)):=by
 obtain ⟨cur,h1,h2,h3,h4,h5,h6⟩:=own_row h
 refine ⟨?_,.inr ⟨g,cap,_,rfl,h1,heap_setCell_same _ _ _ _ _ _ h2,h3,h4,by simpa using h5,?_⟩⟩
 ·have:=h.1
  simpa [intsV] using this
 ·unfold intsV at h6 ⊢
  rw [List.map_set,<-h6]
  simp [List.take_set]
theorem own_cell {w:World} {base g n cap:Nat} {xs:List Int} (h:w.ownsRow base 2 1 (.slice (some ⟨g,0,none⟩) n cap) n (intsV xs)) (hm:n<=4611686018427387904) {j:Nat} (hj:j<n) :
  ∃ hx:j<xs.length,w.cell? ⟨g,j,none⟩=some (.int .i64 xs[j])/\w.frozen? ⟨g,j,none⟩=false:=by
 have hl:xs.length=n:=by have:=h.1;simpa [intsV] using this
 obtain ⟨cur,h1,h2,h3,h4,h5,h6⟩:=own_row h
 obtain ⟨g',cap',e,hI,_⟩:=own_ints h hl (by omega) hm
 injection e with e1 _ e3
 injection e1 with e1
 injection e1 with e1
 subst e1
 refine ⟨by omega,?_,?_⟩
 ·have:=hI.1 j (by omega)
  rw [Nat.zero_add] at this
  exact this
 ·exact frozen_of_row _ _ _ _ _ h2
theorem own_set77 {w:World} {base g n cap:Nat} {ys:List Int} {z:Int} (h:w.ownsRow base 2 1 (.slice (some ⟨g,0,none⟩) (n+1) cap) (n+1) (intsV (ys++[z]))) (hl:ys.length=n) {j:Nat} (hj:j<n) (x:Int) :
  (w.setCell ⟨g,j,none⟩ (.int .i64 x)).ownsRow base 2 1 (.slice (some ⟨g,0,none⟩) (n+1) cap) (n+1) (intsV (ys.set j x++[z])):=by
 have:=own_set h j x
 rw [List.set_append_left _ _ (by omega)] at this
 exact this
theorem own_any {w:World} {base n:Nat} {v:Value} {ys:List Int} (h:w.ownsRow base 2 1 v n (intsV ys)) (hm:n<=4611686018427387904):SInts w v ys:=by
 have hl:ys.length=n:=by have:=h.1;simpa [intsV] using this
 by_cases h0:n=0
 ·subst h0
  have hy:ys=[]:=List.length_eq_zero_iff.1 hl
  rcases h.2 with ⟨rfl,_⟩ | ⟨g,cp,cur,rfl,_⟩
  ·exact Or.inr ⟨_,_,rfl,hy⟩
  ·exact Or.inr ⟨_,_,rfl,hy⟩
 ·obtain ⟨g,cap,rfl,hI,_⟩:=own_ints h hl (by omega) hm
  exact Or.inl ⟨g,0,cap,by rw [hl],hI⟩
theorem step_copy {P:Program} {ops:Array Oper} {o:Oper} {a:Act} {w:World} {K:Act->World->Prop} {Q:Exit->Act->World->Prop} {E:Prop} (hgd:o.guard=none) (s x:Operand) (t:TypeId)
  (ho:o.op=.call { callee:=.builtin .append,args:=#[s,x],argTypes:=#[t,t] })
  (i:TypeInfo) (z:Value) (ht:P.underlying t=some (.slice 2)) (hi:P.info? 2=some i) (hz:i.zero=some z)
  (hsize:i.size=1) (hby:i.bytes=8) (hzs:z.cells.size=1)
  (B:Nat) (hs:a.eval s=.slice (some ⟨B,0,none⟩) 0 0) (hB:w.heap[B]?=some (.cells #[] 2 (0,0)))
  (g n cap:Nat) (hx:a.eval x=.slice (some ⟨g,0,none⟩) n cap) (ys:List Int) (hS:IntsAt w g 0 ys) (hl:ys.length=n) (hn:n*8<=140737488355328) (base:Nat) (hbB:base<=B)
  (h:∀ v' w',SInts w' v' ys->Below base w w'->K (a.put o.dst v') w') :
  if Region.wanted o (yielded ops a.tmps)=true then Oper.wp P o a w K Q else E:=by
 have hw:Region.wanted o (yielded ops a.tmps)=true:=by simp [Region.wanted,hgd]
 rw [if_pos hw]
 have hBl:=lt_rowV hB
 refine wp_append_own w s x t ho base 2 i z 1 8 ht hi hz hsize hby hzs (by decide) (.slice (some ⟨B,0,none⟩) 0 0) 0 [] hs ⟨rfl,.inr ⟨B,0,#[],rfl,hbB,hB,Nat.le_refl _,Nat.zero_le _,rfl,rfl⟩⟩ ⟨g,0,none⟩ n cap (intsV ys) hx (by simp [intsV,hl]) ?_ (ints_one ys) (by unfold maxLen;omega) (by omega) (by omega) ?_
 ·intro j u hu
  obtain ⟨hj,hu⟩:=List.getElem?_eq_some_iff.1 hu
  have hj2:j<ys.length:=by simpa [intsV] using hj
  rw [add_off,hS.1 j hj2,<-hu]
  simp [intsV]
 ·intro v' w' k1 k2 _
  rw [Nat.zero_add,List.nil_append] at k1
  exact h v' w' (own_any k1 (by omega)) ((Below.refl base w).grown k2 (by omega) (by intro k hk;simp [Value.ownBlock] at hk;omega))
end
section
open Go.RowKit Go.Deep Go.WideShapes Go.ChangeShapes
section
variable {H:Type} {enc:TypeId×Value->H} {w:World}
theorem ocellsU:Tryz.prog.cellsOf 25=1:=by kernel_rfl
theorem ocellsN:Tryz.prog.cellsOf 2=1:=by kernel_rfl
theorem ocellsB:Tryz.prog.cellsOf 4=1:=by kernel_rfl
theorem ocellsG:Tryz.prog.cellsOf 27=2:=by kernel_rfl
theorem ocellsI:Tryz.prog.cellsOf 24=2:=by kernel_rfl
theorem ocellsM:Tryz.prog.cellsOf 29=5:=by kernel_rfl
theorem owf64 {v:Int} (h:(Lit.int .i64 v).wf=true):In64 v:=by
 simp only [Lit.wf,IntKind.min,IntKind.max,Bool.and_eq_true,decide_eq_true_eq] at h
 exact ⟨by simpa [IntKind.signed,IntKind.bits] using h.1,by simpa [IntKind.signed,IntKind.bits] using h.2⟩
theorem owfU {v:Int} (h:(Lit.int .u64 v).wf=true):∃ n:Nat,v=(n:Int)/\U64 n:=by
 simp only [Lit.wf,IntKind.min,IntKind.max,Bool.and_eq_true,decide_eq_true_eq] at h
 have a:0<=v:=by simpa [IntKind.signed,IntKind.bits] using h.1
 have b:v<=18446744073709551615:=by simpa [IntKind.signed,IntKind.bits] using h.2
 exact ⟨v.toNat,by omega,by unfold U64;omega⟩
def ocgCells (M R:Nat):List Value:=[.int .u64 (M:Int),.int .u64 (R:Int)]
def oivCells (l h:Int):List Value:=[.int .i64 l,.int .i64 h]
def onCells (a:Int×Int×Nat×Nat×Bool):List Value:=[.bool a.2.2.2.2,.int .i64 a.1,.int .i64 a.2.1,.int .u64 (a.2.2.1:Int),.int .u64 (a.2.2.2.1:Int)]
def onData {H:Type} (a:Int×Int×Nat×Nat×Bool):DataW H:=.agg [.lit (.bool a.2.2.2.2),.agg [.lit (.int .i64 a.1),.lit (.int .i64 a.2.1)],.agg [.lit (.int .u64 (a.2.2.1:Int)),.lit (.int .u64 (a.2.2.2.1:Int))]]
set_option maxRecDepth 100000 in
theorem oopen_cgc {base fuel:Nat} {spare:Nat->Bool} {held:Bool} {cs:List Value} {x:DataW H×List MemPlace} (h:DataW.trod enc Tryz.prog w base spare held fuel 27 cs=some x) :
  ∃ M R:Nat,cs=ocgCells M R/\x=(.agg [.lit (.int .u64 (M:Int)),.lit (.int .u64 (R:Int))],[])/\U64 M/\U64 R:=by
 obtain ⟨xs,m,_,rfl,hl,hlen,hf⟩:=DataW.trod_struct Tryz.underlying27 h
 rw [ocellsG] at hl
 match xs,hlen,cs,hl with
 | [y0,y1],_,[c0,c1],_ =>
  have h0:DataW.trod enc Tryz.prog w base spare held m 25 (([c0,c1].drop 0).take (Tryz.prog.cellsOf 25))=some y0:=hf 0 _ rfl
  rw [ocellsU,show ([c0,c1].drop 0).take 1=[c0] from rfl] at h0
  have h1:DataW.trod enc Tryz.prog w base spare held m 25 (([c0,c1].drop 1).take (Tryz.prog.cellsOf 25))=some y1:=hf 1 _ rfl
  rw [ocellsU,show ([c0,c1].drop 1).take 1=[c1] from rfl] at h1
  obtain ⟨d,e0,r0,w0⟩:=DataW.trod_int Tryz.underlying25 h0
  obtain ⟨k,e1,r1,w1⟩:=DataW.trod_int Tryz.underlying25 h1
  simp only [List.cons.injEq,and_true] at e0 e1
  obtain ⟨M,rfl,u0⟩:=owfU w0
  obtain ⟨R,rfl,u1⟩:=owfU w1
  subst e0 e1 r0 r1
  exact ⟨M,R,rfl,rfl,u0,u1⟩
set_option maxRecDepth 100000 in
theorem oopen_ivc {base fuel:Nat} {spare:Nat->Bool} {held:Bool} {cs:List Value} {x:DataW H×List MemPlace} (h:DataW.trod enc Tryz.prog w base spare held fuel 24 cs=some x) :
  ∃ l h:Int,cs=oivCells l h/\x=(.agg [.lit (.int .i64 l),.lit (.int .i64 h)],[])/\In64 l/\In64 h:=by
 obtain ⟨xs,m,_,rfl,hl,hlen,hf⟩:=DataW.trod_struct Tryz.underlying24 h
 rw [ocellsI] at hl
 match xs,hlen,cs,hl with
 | [y0,y1],_,[c0,c1],_ =>
  have h0:DataW.trod enc Tryz.prog w base spare held m 2 (([c0,c1].drop 0).take (Tryz.prog.cellsOf 2))=some y0:=hf 0 _ rfl
  rw [ocellsN,show ([c0,c1].drop 0).take 1=[c0] from rfl] at h0
  have h1:DataW.trod enc Tryz.prog w base spare held m 2 (([c0,c1].drop 1).take (Tryz.prog.cellsOf 2))=some y1:=hf 1 _ rfl
  rw [ocellsN,show ([c0,c1].drop 1).take 1=[c1] from rfl] at h1
  obtain ⟨d,e0,r0,w0⟩:=DataW.trod_int Tryz.underlying2 h0
  obtain ⟨k,e1,r1,w1⟩:=DataW.trod_int Tryz.underlying2 h1
  simp only [List.cons.injEq,and_true] at e0 e1
  subst e0 e1 r0 r1
  exact ⟨d,k,rfl,rfl,owf64 w0,owf64 w1⟩
set_option maxRecDepth 100000 in
theorem oopen_nc {base fuel:Nat} {spare:Nat->Bool} {held:Bool} {cs:List Value} {x:DataW H×List MemPlace} (h:DataW.trod enc Tryz.prog w base spare held fuel 29 cs=some x) :
  ∃ a:Int×Int×Nat×Nat×Bool,cs=onCells a/\x=(onData a,[])/\RawN a:=by
 obtain ⟨xs,m,_,rfl,hl,hlen,hf⟩:=DataW.trod_struct Tryz.underlying29 h
 rw [ocellsM] at hl
 match xs,hlen,cs,hl with
 | [y0,y1,y2],_,[c0,c1,c2,c3,c4],_ =>
  have h0:DataW.trod enc Tryz.prog w base spare held m 4 (([c0,c1,c2,c3,c4].drop 0).take (Tryz.prog.cellsOf 4))=some y0:=hf 0 _ rfl
  have h1:DataW.trod enc Tryz.prog w base spare held m 24 (([c0,c1,c2,c3,c4].drop (Tryz.prog.cellsOf 4)).take (Tryz.prog.cellsOf 24))=some y1:=hf 1 _ rfl
  have h2:DataW.trod enc Tryz.prog w base spare held m 27 (([c0,c1,c2,c3,c4].drop (Tryz.prog.cellsOf 4+Tryz.prog.cellsOf 24)).take (Tryz.prog.cellsOf 27))=some y2:=hf 2 _ rfl
  rw [ocellsB,show ([c0,c1,c2,c3,c4].drop 0).take 1=[c0] from rfl] at h0
  rw [ocellsB,ocellsI,show ([c0,c1,c2,c3,c4].drop 1).take 2=[c1,c2] from rfl] at h1
  rw [ocellsB,ocellsI,ocellsG,show ([c0,c1,c2,c3,c4].drop (1+2)).take 2=[c3,c4] from rfl] at h2
  obtain ⟨b,e0,r0⟩:=DataW.trod_bool Tryz.underlying4 h0
  obtain ⟨lo,hi,e1,r1,i1,i2⟩:=oopen_ivc h1
  obtain ⟨M,R,e2,r2,u1,u2⟩:=oopen_cgc h2
  simp only [oivCells,ocgCells,List.cons.injEq,and_true] at e0 e1 e2
  obtain ⟨rfl,rfl⟩:=e1
  obtain ⟨rfl,rfl⟩:=e2
  subst e0 r0 r1 r2
  exact ⟨(lo,hi,M,R,b),rfl,rfl,i1,i2,u1,u2⟩
set_option maxRecDepth 100000 in
theorem open_num {r:Reach} {b0 base:Nat} {spare:Nat->Bool} {held:Bool} {v:Value} {d:DataW H} {ps:List MemPlace} (hval:Value.okWide Tryz.prog w r b0 29 v) (hd:DataW.Trod enc Tryz.prog w base spare held 29 v d ps) :
  ∃ a:Int×Int×Nat×Nat×Bool,v=nv a/\RawN a:=by
 obtain ⟨cs,rfl,_⟩:=okWide_struct Tryz.underlying29 hval
 obtain ⟨fuel,hf⟩:=hd
 obtain ⟨a,hp,_,h1⟩:=oopen_nc hf
 refine ⟨a,?_,h1⟩
 have:cs.toList=onCells a:=by simpa [Value.cells] using hp
 rw [show cs=(onCells a).toArray by rw [<-this]]
 rfl
end
end
section
open Go.RowKit Go.Deep Go.WideShapes Go.ChangeShapes
section
variable {H:Type} {enc:TypeId×Value->H} {w:World}
theorem ocells_lt {b o:Nat} {u:Value} (h:w.cell? ⟨b,o,none⟩=some u):b<w.heap.size:=by
 rcases Nat.lt_or_ge b w.heap.size with hh | hh
 ·exact hh
 ·simp [World.cell?,Array.getElem?_eq_none hh] at h
def onumData {H:Type} (v:Int):DataW H:=.lit (.int .i64 v)
theorem oopen_nums {fuel:Nat} {held:Bool} {cs:List Value} {x:DataW H×List MemPlace} (h:DataW.trod enc Tryz.prog w 0 (fun _=>true) held fuel 30 cs=some x) :
  (cs=[.slice none 0 0]/\x=(.nil,[]))\/∃ (a:Addr) (len cap:Nat) (ts:List Int),cs=[.slice (some a) len cap]/\len<=cap/\cap<=maxLen/\ts.length=cap/\(∀ t∈ts,In64 t) /\
   (0<cap->∃ b o,a=⟨b,o,none⟩/\b<w.heap.size/\∀ i (hi:i<ts.length),w.cell? ⟨b,o+i,none⟩=some (.int .i64 ts[i]))/\x.1=.slice ((ts.take len).map onumData) ((ts.drop len).map onumData):=by
 rcases open_slice Tryz.underlying30 h with h0 | ⟨a,len,cap,m,n,D,Pl,rfl,_,hl,hm,hme,hx,hel⟩
 ·exact .inl h0
 right
 simp only [if_true] at hme
 subst hme
 rw [ocellsN] at hel
 have hex:∀ i,∃ t:Int,i<m->w.cells? 0 (a.add (i*1)) 1=some [.int .i64 t]/\D i=onumData t/\In64 t:=by
  intro i
  by_cases hi:i<m
  ·obtain ⟨cs',h1,h2⟩:=hel i hi
   obtain ⟨t,rfl,h3,h4⟩:=DataW.trod_int Tryz.underlying2 h2
   exact ⟨t,fun _=>⟨h1,by injection h3,owf64 h4⟩⟩
  ·exact ⟨0,fun hh=>absurd hh hi⟩
 obtain ⟨f,hf⟩:=Classical.axiomOfChoice hex
 have hg:∀ i (hi:i<((List.range m).map f).length),((List.range m).map f)[i]=f i:=by intro i hi;simp
 refine ⟨a,len,m,(List.range m).map f,rfl,hl,hm,by simp,?_,?_,?_⟩
 ·intro nd hnd
  obtain ⟨i,hi,rfl⟩:=List.mem_map.1 hnd
  exact (hf i (by simpa using hi)).2.2
 ·intro hpos
  have hc:∀ i,i<m->w.cell? ((a.add (i*1)).add 0)=some (.int .i64 (f i)):=fun i hi=>(World.cells?_some (hf i hi).1).2.2 0 (by decide)
  have h00:=hc 0 hpos
  obtain ⟨b,o,y⟩:=a
  have hy:y=none:=by simpa [Addr.add] using World.cell?_spot h00
  subst hy
  have key:∀ i,i<m->w.cell? ⟨b,o+i,none⟩=some (.int .i64 (f i)):=fun i hi=>by
   have h9:=hc i hi
   rw [Go.WideShapes.add_plain,Go.WideShapes.add_plain,Nat.mul_one,Nat.add_zero] at h9
   exact h9
  exact ⟨b,o,rfl,ocells_lt (key 0 hpos),fun i hi=>by rw [hg i hi];exact key i (by simpa using hi)⟩
 ·rw [hx]
  show DataW.slice _ _=_
  congr 1
  ·apply List.ext_getElem
   ·simp;omega
   ·intro i h1 h2
    simp at h1 h2 ⊢
    exact (hf i (by omega)).2.1
  ·apply List.ext_getElem
   ·simp
   ·intro i h1 h2
    simp at h1 h2 ⊢
    exact (hf _ (by omega)).2.1
end
end
section
open Go.RowKit
def apN (op:Int) (a b:Int×Int×Nat×Nat×Bool):Int×Int×Nat×Nat×Bool :=
 if op=1 then ap2 neg2N (normN a) (normN a) else if op=3 then ap2 addN (normN a) (normN b) else if op=4 then ap2 subN (normN a) (normN b) else if op=5 then ap2 mulN (normN a) (normN b) else if op=6 then ap2 divN (normN a) (nonZeroN b) else ap2 remN (normN a) (nonZeroN b)
def Op6 (op:Int):Prop:=op=1\/op=3\/op=4\/op=5\/op=6\/op=7
end
section
open Go.RowKit
theorem napply_op (op:Int) (ho:Op6 op) (a b:Int×Int×Nat×Nat×Bool) (ha:RawN a) (hb:RawN b) (w0 w:World) (hok:Ok w0 w) :
  Calls Tryz.prog 7 #[.int .i64 op,nv a,nv b] w fun e w'=>e=.returned (.tuple #[nv (apN op a b),.int .i64 0])/\Ok w0 w':=by
 rcases ho with rfl | rfl | rfl | rfl | rfl | rfl
 ·exact napply_neg a b ha hb w0 w hok
 ·exact napply_add a b ha hb w0 w hok
 ·exact napply_sub a b ha hb w0 w hok
 ·exact napply_mul a b ha hb w0 w hok
 ·exact napply_div a b ha hb w0 w hok
 ·exact napply_rem a b ha hb w0 w hok
end
section
theorem kbroot:True:=trivial
end
end Go.Proofs.YtpjpjhjjhoeijaaGreat
