import Derived.Test.YthoegkcpmgalbaaGreatDoorRows
import Derived.WalkSpells
import Derived.WalkSmall
import Derived.BigQuiet
import Derived.Deep.RegionHeld3
import Derived.Deep.AppendLies
import Derived.Laws.AppendOwnNone
set_option maxHeartbeats 8000000
set_option linter.all false
namespace Go.Proofs.YthoegkcpmgalbaaGreatDoor
open Go.RowKit
variable{B b g k n s:Nat}{p:Prop}{t:TypeId}{v:Value}{w w0:World}{xs:List Value}
abbrev aA:=@List.length_append
abbrev aC:=@if_neg
abbrev aE:=@List.getElem?_eq_some_iff
abbrev aF:=@beq_eq_false_iff_ne
abbrev aG:=@if_pos
abbrev aH:=@Nat.le_trans
abbrev aI:=@Option.some.inj
abbrev aJ:=@List.getElem?_eq_getElem
abbrev aK:=@Nat.le_refl
abbrev aL:=@Nat.zero_add
abbrev aM:=@List.length_map
abbrev aN:=@decide_eq_false
abbrev aO:=@Int.toNat_natCast
abbrev aP:=@List.drop_eq_getElem_cons
abbrev aQ:=@List.getElem?_append_left
abbrev aR:=@List.length_cons
abbrev aS:=@List.getElem?_eq_none
abbrev aT:=@List.mem_singleton
abbrev aU:=@List.drop_of_length_le
abbrev aV:=@decide_eq_true
abbrev aW:=@List.eq_nil_of_length_eq_zero
abbrev aX:=@List.getElem?_map
abbrev aY:=@List.mem_cons_self
abbrev aZ:=@List.length_singleton
abbrev bA:=@List.mem_append
abbrev bB:=@List.drop_zero
abbrev bC:=@List.getElem?_append_right
abbrev bD:=@List.append_nil
abbrev bE:=@List.take_of_length_le
abbrev bF:=@List.getElem?_cons_succ
abbrev bG:=@List.mem_cons_of_mem
abbrev bH:=@List.length_take
abbrev bI:=@List.drop_succ_cons
abbrev bJ:=@List.mem_cons
abbrev bL:=@Bool.false_eq_true
abbrev bM:=@Bool.and_eq_true
abbrev bN:=@List.append_assoc
abbrev bO:=@List.any_cons
abbrev bR:=@List.getElem?_cons_zero
abbrev bT:=@List.getD_eq_getElem?_getD
abbrev bU:=@List.getElem_append_left
abbrev bV:=@decide_eq_true_eq
abbrev bW:=@List.mem_iff_getElem?
abbrev bX:=@List.mem_map
abbrev bY:=@List.flatten_cons
abbrev bZ:=@beq_iff_eq
abbrev cA:=@congrArg
abbrev cB:=@List.getElem_mem
abbrev cC:=@Nat.lt_or_ge
abbrev cD:=@Option.some.injEq
abbrev cE:=@List.cons_append
abbrev cF:=@List.getElem?_range
abbrev cG:=@List.mem_append_left
abbrev cH:=@List.take_length
abbrev cI:=@List.mem_append_right
abbrev cJ:=@List.cons.injEq
abbrev cL:=@Bool.and_false
abbrev cM:=@List.length_nil
abbrev cN:=@List.take_succ_eq_append_getElem
abbrev cO:=@of_decide_eq_true
abbrev cP:=@List.drop_eq_nil_of_le
abbrev cQ:=@List.getElem?_drop
abbrev cR:=@Bool.or_eq_true
abbrev cT:=@if_false
abbrev cU:=@Array.getElem?_eq_none
abbrev cV:=@List.nil_append
abbrev cW:=@List.length_drop
abbrev cX:=@List.length_eq_zero_iff
abbrev cY:=@Nat.lt_of_lt_of_le
abbrev cZ:=@Array.getElem?_eq_some_iff
abbrev dA:=@Nat.add_sub_cancel
abbrev dB:=@List.map_append
abbrev dD:=@if_true
abbrev dE:=@List.not_mem_nil
abbrev dF:=@List.flatten_nil
abbrev dG:=@List.flatten_append
abbrev dH:=@List.take_add_one
abbrev dI:=@Bool.false_or
abbrev dJ:=@List.mem_range
abbrev dK:=@List.map_cons
abbrev dL:=@Nat.le_of_lt
abbrev dM:=@Bool.eq_iff_iff
abbrev dN:=@List.length_set
abbrev dO:=@bne_iff_ne
abbrev dP:=@Nat.add_assoc
abbrev dQ:=@Nat.zero_le
abbrev dR:=@List.mem_of_mem_take
abbrev dS:=@List.getElem?_replicate
abbrev dT:=@Nat.le_mul_of_pos_right
abbrev dU:=@Int.toNat_of_nonneg
abbrev dV:=@Bool.true_or
abbrev dW:=@List.cons_ne_nil
abbrev dX:=@List.findIdx?_cons
abbrev dY:=@Bool.false_and
abbrev dZ:=@List.take_append_drop
abbrev eA:=@Nat.not_lt_zero
abbrev eB:=@List.length_dropLast
abbrev eC:=@List.mem_of_getElem?
abbrev eD:=@List.ext_getElem?
abbrev eE:=@List.replicate_append_replicate
abbrev eF:=@List.map_congr_left
abbrev eG:=@Int.eq_ofNat_of_zero_le
abbrev eH:=@List.mem_flatMap
abbrev eI:=@Nat.mul_le_mul
abbrev eJ:=@Nat.sub_self
abbrev eK:=@List.map_nil
abbrev eL:=@Ne.symm
abbrev eM:=@Option.map_eq_some_iff
abbrev eN:=@List.dropLast_concat_getLast
abbrev eO:=@List.all_cons
abbrev eP:=@List.length_filter_le
abbrev eQ:=@List.getElem_take
abbrev eS:=@Bool.eq_false_iff
abbrev eU:=@Nat.lt_trichotomy
abbrev eV:=@List.flatMap_cons
abbrev eW:=@List.drop_drop
abbrev eX:=@List.findIdx?_append
abbrev eY:=@List.mem_iff_getElem
abbrev eZ:=@decide_eq_decide
abbrev fA:=@List.getLast?_eq_getElem?
abbrev fC:=@List.flatMap_append
abbrev fD:=@Bool.or_false
abbrev fE:=@List.range_succ
abbrev fG:=@List.find?_eq_none
abbrev fH:=@Option.toList_some
abbrev fI:=@List.filter_append
abbrev fJ:=@Nat.add_mul
abbrev fK:=@Bool.not_eq_true'
abbrev fL:=@or_false
abbrev fM:=@List.length_range
abbrev fN:=@ByteArray.size_extract
abbrev fO:=@Array.getElem?_toList
abbrev fP:=@List.set_append_right
abbrev fQ:=@List.getElem?_toArray
abbrev fR:=@List.mem_flatten
abbrev fS:=@List.flatMap_nil
abbrev fT:=@List.map_toArray
abbrev fU:=@Bool.true_and
abbrev fV:=@Prod.mk.injEq
abbrev fW:=@List.take_append_of_le_length
abbrev fX:=@Nat.mul_le_mul_right
abbrev fY:=@List.mem_filter
abbrev fZ:=@Array.getElem?_setIfInBounds
abbrev gF:=@Array.length_toList
abbrev gH:=@List.set_cons_succ
abbrev gI:=@true_and
abbrev gJ:=@Array.any_eq_true'
abbrev gK:=@and_true
abbrev gM:=@Array.ext_getElem?
abbrev gN:=@Array.getElem?_eq_getElem
abbrev gS:=@List.mem_or_eq_of_mem_set
abbrev gU:=@List.getElem_append_right
abbrev gV:=@List.getElem?_eq_none_iff
abbrev gX:=@List.getElem?_zip_eq_some
abbrev gY:=@List.pairwise_iff_getElem
abbrev gZ:=@not_true_eq_false
abbrev hC:=@Array.setIfInBounds_comm
abbrev hI:=@List.getElem_map
abbrev hO:=@Nat.lt_succ_self
abbrev iB:=@Classical.axiomOfChoice
abbrev iC:=@List.all_eq_true
abbrev iD:=@Nat.add_sub_cancel_left
abbrev iE:=@List.getElem_cons_succ
abbrev iF:=@List.getElem?_set_self
abbrev iG:=@Array.size_push
abbrev iH:=@List.countP_singleton
abbrev iJ:=@UInt8.le_iff_toNat_le
abbrev iK:=@List.mem_of_mem_drop
abbrev iL:=@List.dropLast_subset
abbrev iM:=@List.getElem?_set_ne
abbrev iO:=@Bool.or_eq_false_iff
abbrev iP:=@List.length_pos_iff
abbrev iQ:=@Int.lt_or_le
abbrev iR:=@List.map_set
abbrev iT:=@Nat.add_zero
abbrev iU:=@Nat.one_mul
abbrev nI(z:Int):Go.Value:=.int .i64 z
abbrev sZ:Go.Value:=.slice none 0 0
abbrev aD(g o:Nat):Go.Addr:=⟨g,o,none⟩
abbrev sA(g o:Nat):Option Go.Addr:=some ⟨g,o,none⟩
abbrev pA(g o:Nat):Go.Value:=.pointer (some ⟨g,o,none⟩)
def oM(h:p:=by omega):p:=h
def kR(h:p:=by kernel_rfl):p:=h
def dC(h:p:=by decide):p:=h
def sI(h:p:=by simp):p:=h
abbrev nR_:=@Nat.le_refl
abbrev gG_:=@List.getElem?_eq_getElem
abbrev lL_:=@Nat.lt_of_lt_of_le
abbrev dF_:=@decide_eq_false
abbrev dT_:=@decide_eq_true
abbrev zL_:=@Nat.zero_le
abbrev mG_:=@List.mem_of_getElem?
def Hi(p:Prop):Prop:=p
def Hi.o(h:Hi p):p:=h
def qq{α:Sort _}(a:α):∃z,z=a:=⟨a,rfl⟩
def Ok(w0 w:World):Prop:=Below w0.heap.size w0 w
def hid(h:p):Hi p:=h
def Ok.refl(w:World):Ok w w:=Below.refl _ _
def Ok.step{w1:World}(h:Ok w0 w)(d:Below w.heap.size w w1):Ok w0 w1:=Below.trans h (d.mono (Below.size h))
def Ok.alloc(h:Ok w0 w)(o:Obj):Ok w0 (w.alloc o):=Below.alloc h (Below.size h) o
def Ok.draws(h:Ok w0 w)(n:Nat):Ok w0 (w.drewN n):=below_drewN h n
def Ok.set(h:Ok w0 w){p:Addr}(d:w0.heap.size<=p.block)(u:Value):Ok w0 (w.setCell p u):=Below.setCell h d u
def Ok.le(h:Ok w0 w):w0.heap.size<=w.heap.size:=Below.size h
def za3(w:World)(o:Obj):(w.alloc o).heap[w.heap.size]?=some o:=by show(w.heap.push o)[w.heap.size]?=some o;simp
def heap_at(w:World)(a:Obj)(g:Nat)(h:g=w.heap.size):(w.alloc a).heap[g]?=some a:=by subst h;exact za3 _ _
def heap_past(w:World)(a:Obj)(g:Nat){x:Option Obj}(h:g<w.heap.size)(e:w.heap[g]?=x):(w.alloc a).heap[g]?=x:=by rw[Below.heap_alloc _ _ _ h];exact e
def jj(h:p:=by repeat (first|(refine heap_at _ _ _ ?hx; case hx => (first|(simp; done) | (simp; omega))) | (refine heap_past _ _ _ ?hy ?_; case hy => (first|(simp; done) | (simp; omega)))|fail)):p:=h
def Ok.row(h:Ok w0 w){x:Option Obj}(d:g<w0.heap.size)(e:w0.heap[g]?=x):w.heap[g]?=x:=by rw[Below.block h g d];exact e
def Ok.row'(h:Ok w0 w){o:Obj}(e:w0.heap[g]?=some o):w.heap[g]?=some o :=
 Ok.row h ((cZ.1 e).1) e
def za2{o:Obj}(e:w.heap[g]?=some o):g<w.heap.size:=(cZ.1 e).1
def zd1{u:Value}(h:w.heap[g]?=some (.cells #[u,v] t (0,0))) :
  w.cell? (aD g 0)=some u/\w.cell? (aD g 1)=some v/\w.frozen? (aD g 0)=false/\w.frozen? (aD g 1)=false:=by
 refine⟨?_,?_,frozen_of_row _ _ _ _ _ h,frozen_of_row _ _ _ _ _ h⟩
 ·exact(cell_of_row _ _ 0 _ _ _ h).trans sI
 exact(cell_of_row _ _ 1 _ _ _ h).trans sI
def Ok.cell(h:Ok w0 w){p:Addr}(d:p.block<w0.heap.size)(e:w0.cell? p=some v):w.cell? p=some v:=by rw[Below.cell h d];exact e
def zc0{P:Program}{I:Func}{p u:Tmp}{o:TypeId}(h:I.results=#[.cell p o,.tmp u])(tmps:Array Value)(w:World)(g:Nat)(t:TypeId)(cs:Array Value)(G:Nat×Nat)(d:TypeDesc)
  (K:tmps.getD p undef=pA g 0) (J:w.heap[g]?=some (.cells cs t G))
  (L:P.underlying o=some d) (R:(match d with | .struct _ | .array _ _=>true | _=>false)=true) (O:(P.info? o).map (·.size)=some cs.size) :
  (results I tmps).run P w=.ok (.tuple #[.agg cs,tmps.getD u undef]) w:=by
 have D:tmps[p]?.getD undef=pA g 0:=by simpa using K
 rw[results_cell_tmp h];simp[D,asAddr,run_loadVar_row w g t o cs G d J L R O,Result.andThen]
def zu1{w':World}(h:Below w.heap.size w w'):w.grownBy w' none:=⟨h.os,h.tape,h.output,h.size,λk d _=>h.block k d⟩
def zb7(g o j:Nat):(⟨g,o,none⟩:Addr).add j=⟨g,o+j,none⟩:=by unfold Addr.add;split<;>simp_all
def zA4(hb:w.heap[B]?=some (.cells xs.toArray t (0,0))):∀j u,xs[j]?=some u->w.cell? ((⟨B,0,none⟩:Addr).add j)=some u:=λj u d=>World.news_of_block hb j u (by simpa using d)
def zg6{z:Value}(h:(Tryz.prog.info? t).map (λi=>(i.zero,i.size,i.bytes))=some (some z,s,b)):∃i,Tryz.prog.info? t=some i/\i.zero=some z/\i.size=s/\i.bytes=b:=by
 cases d:Tryz.prog.info? t with
 | none=>rw[d]at h;cases h
 | some i=>rw[d]at h;simp at h;exact⟨i,rfl,h.1,h.2.1,h.2.2⟩
def zd3{x:Int}{k:Nat}(e:x=(k:Int))(h:k<9223372036854775808):IntKind.i64.wrap x=(k:Int):=by rw[IntKind.wrap_i64];omega
def za0{e:TypeId}(h:w.ownsRow B e s v n xs):∃o cap,v=.slice o n cap:=by
 rcases h.2 with ⟨d,G⟩ | ⟨g,cap,D,d,_⟩
 ·exact⟨none,0,by rw[d,G]⟩
 exact⟨_,cap,d⟩
def za7{B' e:Nat}(h:w.ownsRow B' e s v n xs)(d:B<=B'):w.ownsRow B e s v n xs:=by
 refine⟨h.1,?_⟩;rcases h.2 with h1 | ⟨g,cap,cur,h1,h2,h3⟩
 ·exact .inl h1
 exact .inr ⟨g,cap,cur,h1,aH d h2,h3⟩
def zb4{w':World}{e:TypeId}(h:w.ownsRow B e s v n xs)(d:∀b,v.ownBlock=some b->w'.heap[b]?=w.heap[b]?):w'.ownsRow B e s v n xs:=by
 refine⟨h.1,?_⟩;rcases h.2 with h1 | ⟨g,cap,cur,rfl,h1,h2,h3⟩
 ·exact .inl h1
 exact .inr ⟨g,cap,cur,rfl,h1,(d g rfl).trans h2,h3⟩
def za5{a:Nat}(h:a<b):(a:Int)<(b:Int):=by omega
def zb2{a:Nat}(h:¬a<b):¬(a:Int)<(b:Int):=by omega
def zb3(hk:k<1000000000000):IntKind.i64.wrap ((k:Int)+1)=((k+1:Nat):Int):=zd3 oM oM
def we3{l:Nat}(h:k<l):((l:Int)-((k+1:Nat):Int)).toNat<((l:Int)-(k:Int)).toNat:=by omega
def za4{a b:Bool}(h:a=b):Ending.returned (.bool a)=.returned (.bool b):=by rw[h]
def DD(c:UInt8):Bool:=(97<=c&&c<=122)||(65<=c&&c<=90)||c==95
def CC(c:UInt8):Bool:=48<=c&&c<=57
def wj5(c:UInt8):Bool:=c==9||c==10||c==13||c==32
def wb9(c d:UInt8):(c==d)=decide (c.toNat=d.toNat):=by rw[dM];simp only[bZ,bV];exact⟨λh=>by rw[h],λh=>UInt8.toNat_inj.1 h⟩
def zo8(c:UInt8):DD c=true↔(97<=c.toNat/\c.toNat<=122)\/(65<=c.toNat/\c.toNat<=90)\/c.toNat=95:=by unfold DD;rw[wb9];simp[iJ,or_assoc]
def zi3(c:UInt8):CC c=true↔48<=c.toNat/\c.toNat<=57:=by unfold CC;simp[iJ]
def ye9(c:UInt8):wj5 c=true↔c.toNat=9\/c.toNat=10\/c.toNat=13\/c.toNat=32:=by unfold wj5;rw[wb9,wb9,wb9,wb9];simp[or_assoc]
def ze9(c:UInt8)(w:World) :
  Calls Tryz.prog 109 #[.int .u8 c.toNat] w λe w'=>e=.returned (.bool (CC c))/\w'=w:=by
 go_enter Tryz.func109,Tryz.ntmps109;go_wp2
 all_goals (go_ret;refine⟨za4 ?_,rfl⟩;rw[dM,zi3];simp;omega)
def ze0(c:UInt8)(w:World) :
  Calls Tryz.prog 108 #[.int .u8 c.toNat] w λe w'=>e=.returned (.bool (DD c))/\w'=w:=by
 go_enter Tryz.func108,Tryz.ntmps108;go_wp2
 all_goals (go_ret;refine⟨za4 ?_,rfl⟩;rw[dM,zo8];simp;omega)
def zp9(c:UInt8)(w:World) :
  Calls Tryz.prog 107 #[.int .u8 c.toNat] w λe w'=>e=.returned (.bool (wj5 c))/\w'=w:=by
 go_enter Tryz.func107,Tryz.ntmps107;go_wp2
 all_goals (go_ret;refine⟨za4 ?_,rfl⟩;rw[dM,ye9];simp;omega)
def pu:(∀(a:Act) (v:Value),a.put none v=a)/\(∀(a:Act) (t:Tmp) (v:Value),a.put (some t) v={ a with tmps:=a.tmps.setIfInBounds t v })/\(∀(l:List Oper) (i:Nat) (h:i<l.toArray.size),l.toArray[i]=l[i]'(by simpa using h))/\(∀(x:Oper) (l:List Oper) (i:Nat) (h:i+1<(x::l).length),(x::l)[i+1]=l[i]'(Nat.lt_of_succ_lt_succ h))/\(∀(x:Oper) (l:List Oper) (h:0<(x::l).length),(x::l)[0]=x)/\(∀(l:List Value) (i:Nat) (v:Value),l.toArray.setIfInBounds i v=(l.set i v).toArray)/\(∀(x v:Value) (l:List Value),(x::l).set 0 v=v::l)/\(∀(x v:Value) (l:List Value) (i:Nat),(x::l).set (i+1) v=x::l.set i v) :=
 ⟨λ_ _=>rfl,λ_ _ _=>rfl,λ_ _ _=>rfl,λ_ _ _ _=>rfl,λ_ _ _=>rfl,λl i v=>List.setIfInBounds_toArray l i v,λ_ _ _=>rfl,λ_ _ _ _=>rfl⟩
def zc2(s:ByteArray):s.toList.length=s.size:=by rw[ByteArray.toList_eq,gF];rfl
def zd7(s:ByteArray)(k:Nat)(h:k<s.size):s.toList.drop k=s[k]::s.toList.drop (k+1):=by rw[ByteArray.toList_eq,aP (by simpa using h)];rfl
def zm2(s:ByteArray)(k:Nat)(h:¬k<s.size):s.toList.drop k=[]:=cP (by rw[zc2];omega)
def DO(p:UInt8->Bool):List UInt8->Nat
 | []=>0
 | c::r=>if p c then DO p r+1 else 0
def zL0{p:UInt8->Bool}{s:ByteArray}(h:k<s.size)(d:p s[k]=true):DO p (s.toList.drop k)=DO p (s.toList.drop (k+1))+1:=by rw[zd7 s k h];simp[DO,d]
def yf0{p:UInt8->Bool}{s:ByteArray}(h:k<s.size)(d:p s[k]=false):DO p (s.toList.drop k)=0:=by rw[zd7 s k h];simp[DO,d]
def zL1{p:UInt8->Bool}{s:ByteArray}(h:¬k<s.size):DO p (s.toList.drop k)=0:=by rw[zm2 s k h];rfl
def zA5(p:UInt8->Bool):∀l,DO p l<=l.length
 | []=>nR_ _
 | c::r=>by
  unfold DO
  split
  ·have:=zA5 p r;simp;omega
  exact zL_ _
def wl0(c:UInt8):Bool := !(c==10)
def EN:List UInt8->Nat
 | []=>0
 | c::r=>if wj5 c then 1 else if c==35 then DO wl0 (c::r) else 0
def zQ9(c:UInt8):wl0 c=true↔¬c.toNat=10:=by unfold wl0;rw[wb9];simp
def zq0(s:ByteArray)(i:Nat)(hi:i<s.size)(hs:s.size<=1000000)(w:World) :
  Calls Tryz.prog 70 #[.string s,nI (i:Nat)] w λe w'=>e=.returned (nI ((i+EN (s.toList.drop i):Nat):Int))/\w'=w:=by
 have a4:(i:Int)<(s.size:Int):=by omega
 have a1:IntKind.i64.wrap ((i:Int)+1)=((i+1:Nat):Int):=zb3 oM;obtain⟨c,G⟩:=qq (s[i]);have HD:Hi (s.toList.drop i=c::s.toList.drop (i+1)):=by rw[G];exact zd7 s i hi
 have a2:(s[i].toNat:Int)=(c.toNat:Int):=by rw[G]
 have HI:=hid hi;obtain⟨D,d⟩:=qq (i+EN (s.toList.drop i));rw[<-d];have HA:Hi (D=i+EN (s.toList.drop i)):=d;have HC:Hi (c=s[i]):=G;clear d G
 cases O:wj5 c with
 | true =>
  have Z:Hi (D=i+1):=by unfold Hi;rw[HA.o,HD.o];simp[EN,O]
  go_enter Tryz.func70,Tryz.ntmps70
  go_wp2_with (go_at_call 107;refine(zp9 c _).mono ?_;rintro e w1 ⟨rfl,I⟩;replace I:=I.symm;subst I;rw[O])
  go_ret;exact⟨by rw[Z.o];rfl,rfl⟩
 | false =>
  by_cases L:c.toNat=35
  ·have Z:Hi (D=i+DO wl0 (s.toList.drop i)):=by
    have a3:(c==35)=true:=by rw[wb9];simpa using L
    unfold Hi;rw[HA.o];congr 1;rw[HD.o];simp only[EN,O,a3];rfl
   have K:((c.toNat:Int)==35)=true:=by rw[bZ];omega
   clear L;go_enter Tryz.func70,Tryz.ntmps70
   go_wp2_with (go_at_call 107;refine(zp9 c _).mono ?_;rintro e w1 ⟨rfl,I⟩;replace I:=I.symm;subst I;rw[O])
   go_loopw [1] (λx wr=>∃(j:Nat),j<=s.size/\x=nI (j:Nat)/\Hi (D=j+DO wl0 (s.toList.drop j))/\wr=w) (λx _=>((s.size:Int)-intOf x).toNat)
   case atStart=>exact⟨i,dL HI.o,rfl,Z,rfl⟩
   obtain⟨j,hj,rfl,HJ,rfl⟩:=hrel;clear a4 a1 a2 K O hi;by_cases G:j<s.size
   ·have Y:(j:Int)<(s.size:Int):=za5 G
    have a5:IntKind.i64.wrap ((j:Int)+1)=((j+1:Nat):Int):=zb3 oM;obtain⟨d,W⟩:=qq (s[j]);have a6:(s[j].toNat:Int)=(d.toNat:Int):=by rw[W]
    by_cases J:d.toNat=10
    ·have X:((d.toNat:Int)==10)=true:=by rw[bZ];omega
     have R:Hi (D=j):=by unfold Hi;rw[HJ.o,yf0 G (by rw[<-W,eS];intro h;exact(zQ9 d).1 h J)];rfl
     clear W J;go_wp2_with fail;go_ret;exact⟨by rw[R.o];rfl,rfl⟩
    have X:((d.toNat:Int)==10)=false:=by rw[aF];omega
    have R:Hi (D=(j+1)+DO wl0 (s.toList.drop (j+1))):=by unfold Hi;rw[HJ.o,zL0 G (by rw[<-W];exact(zQ9 d).2 J)];omega
    clear W J;go_wp2_with fail;go_roundw
    case rel=>exact⟨j+1,G,rfl,R,trivial⟩
    case measure=>exact we3 G
   have Y:¬(j:Int)<(s.size:Int):=zb2 G;have R:Hi (D=j):=by unfold Hi;rw[HJ.o,zL1 G];rfl
   go_wp2_with fail;go_ret;exact⟨by rw[R.o];rfl,rfl⟩
  have Z:Hi (D=i):=by unfold Hi;rw[HA.o,HD.o];simp[EN,O,wb9,L]
  have K:((c.toNat:Int)==35)=false:=by rw[aF];omega
  go_enter Tryz.func70,Tryz.ntmps70
  go_wp2_with (go_at_call 107;refine(zp9 c _).mono ?_;rintro e w1 ⟨rfl,I⟩;replace I:=I.symm;subst I;rw[O])
  go_ret;exact⟨by rw[Z.o];rfl,rfl⟩
def wg6(n:Int):List UInt8->Int
 | []=>n
 | c::r=>wg6 (wrap64 (wrap64 (n*10)+((c.toNat:Int)-48))) r
def zG3(s:ByteArray)(hs:s.size<=1000000)(I:∀i (h:i<s.size),CC s[i]=true)(w:World) :
  Calls Tryz.prog 111 #[.string s] w λe w'=>e=.returned (nI (wg6 0 s.toList))/\w'=w:=by
 obtain⟨G,d⟩:=qq (wg6 0 s.toList);rw[<-d];have Y:Hi (G=wg6 0 (s.toList.drop 0)):=d;have HD:=hid I;clear d I;go_enter Tryz.func111,Tryz.ntmps111;go_wp2_with fail;go_loopw [3,4] (λn x wr=>∃(m:Int) (j:Nat),j<=s.size/\n=nI m/\x=nI (j:Nat)/\Hi (G=wg6 m (s.toList.drop j))/\wr=w) (λ_ x _=>((s.size:Int)-intOf x).toNat)
 case atStart=>exact⟨0,0,zL_ _,rfl,rfl,Y,rfl⟩
 obtain⟨m,j,Z,rfl,rfl,L,rfl⟩:=hrel;by_cases D:j<s.size
 ·have J:(j:Int)<(s.size:Int):=za5 D
  have W:IntKind.i64.wrap ((j:Int)+1)=((j+1:Nat):Int):=zb3 oM;obtain⟨d,I⟩:=qq (s[j]);have X:(s[j].toNat:Int)=(d.toNat:Int):=by rw[I]
  have O:=(zi3 d).1 (by rw[I];exact HD.o j D);have R:IntKind.u8.wrap ((d.toNat:Int)-48)=(d.toNat:Int)-48:=by rw[IntKind.wrap_u8];omega
  have K:Hi (G=wg6 (wrap64 (wrap64 (m*10)+((d.toNat:Int)-48))) (s.toList.drop (j+1))):=by unfold Hi;rw[L.o,zd7 s j D,<-I];rfl
  clear I;go_wp2_with fail;go_roundw
  case rel=>exact⟨wrap64 (wrap64 (m*10)+((d.toNat:Int)-48)),j+1,D,rfl,rfl,K,trivial⟩
  case measure=>exact we3 D
 have J:¬(j:Int)<(s.size:Int):=zb2 D;have K:Hi (G=m):=by unfold Hi;rw[L.o,zm2 s j D];rfl
 go_wp2_with fail;go_ret;exact⟨by rw[K.o];rfl,rfl⟩
def DX:List UInt8->List UInt8
 | []=>[]
 | c::r=>if c==48 then DX r else c::r
def wn5:ByteArray:=⟨#[57,50,50,51,51,55,50,48,51,54,56,53,52,55,55,53,56,48,55]⟩
def wl1(l:List UInt8):Bool:=Op.bytesLess l wn5.toList||l==wn5.toList
def ED(l:List UInt8):Bool:=if (DX l).length=19 then wl1 (DX l) else decide ((DX l).length<19)
def ze5(s:ByteArray)(a b:Nat):(s.extract a b).toList=(s.toList.drop a).take (b-a):=by rw[ByteArray.toList_eq,ByteArray.toList_eq,ByteArray.data_extract,Array.toList_extract]
def yf1{t:ByteArray}(h:0<t.size)(d:t[0].toNat=48):DX t.toList=DX (t.extract 1 t.size).toList:=by
 have e:=zd7 t 0 h;rw[bB]at e;rw[ze5,bE (by rw[cW,zc2];exact aK _),e];have:(t[0]==48)=true:=by rw[wb9];simpa using d
 simp[DX,this]
def yq2{t:ByteArray}(h:0<t.size)(d:¬t[0].toNat=48):DX t.toList=t.toList:=by
 have e:=zd7 t 0 h;rw[bB]at e;rw[e];have:(t[0]==48)=false:=by rw[wb9];simpa using d
 simp[DX,this]
def yf2{t:ByteArray}(h:¬0<t.size):DX t.toList=t.toList:=by have e:=zm2 t 0 h;rw[bB]at e;rw[e];rfl
def zm3(s:ByteArray)(hs:s.size<=1000000)(w:World) :
  Calls Tryz.prog 110 #[.string s] w λe w'=>e=.returned (.bool (ED s.toList))/\w'=w:=by
 obtain⟨I,d⟩:=qq (ED s.toList);rw[<-d];have W:Hi (I=ED s.toList):=d;clear d;go_enter Tryz.func110,Tryz.ntmps110;go_wp2_with fail;go_loopw [0] (λx wr=>∃(t:ByteArray),t.size<=s.size/\x=.string t/\Hi (DX s.toList=DX t.toList)/\wr=w) (λx _=>match x with | .string t=>t.size | _=>0)
 case atStart=>exact⟨s,nR_ _,rfl,rfl,rfl⟩
 obtain⟨t,Z,rfl,R,rfl⟩:=hrel;by_cases d:0<t.size
 ·have L:(0:Int)<(t.size:Int):=by omega
  have Y:1<=t.size:=d;by_cases D:t[0].toNat=48
  ·have K:((t[0].toNat:Int)==48)=true:=by rw[bZ];omega
   have O:=hid (R.o.trans (yf1 d D));have J:(t.extract 1 t.size).size=t.size-1:=by rw[fN];omega
   have G:Hi _:=J;clear D J;go_wp2_with fail;go_roundw
   case rel=>exact⟨t.extract 1 t.size,by rw[G.o];omega,rfl,O,trivial⟩
   case measure=>show(t.extract 1 t.size).size<t.size;rw[G.o];omega
  have K:((t[0].toNat:Int)==48)=false:=by rw[aF];omega
  have O:Hi (DX s.toList=t.toList/\t.toList.length=t.size):=⟨R.o.trans (yq2 d D),zc2 t⟩;clear D;by_cases G:t.size=19
  ·have J:((t.size:Int)==19)=true:=by rw[bZ];omega
   have X:∀w,(binOp BinOp.leq 9 (.string t) (.string ⟨#[57,50,50,51,51,55,50,48,51,54,56,53,52,55,55,53,56,48,55]⟩)).run Tryz.prog w=.ok (.bool (wl1 t.toList)) w:=λw=>rfl
   have D:Hi (I=wl1 t.toList):=by unfold Hi;rw[W.o];unfold ED;rw[O.o.1,O.o.2,aG G]
   clear G;go_wp2_with fail;go_ret;exact⟨by rw[D.o];rfl,rfl⟩
  have J:((t.size:Int)==19)=false:=by rw[aF];omega
  have D:Hi (I=decide (t.size<19)):=by unfold Hi;rw[W.o];unfold ED;rw[O.o.1,O.o.2,aC G]
  have X:(↑t.size != (19:Int))=true:=by rw[bne,J];rfl
  clear G;go_wp2_with fail;go_ret;exact⟨by rw[D.o];show Ending.returned (.bool (decide ((t.size:Int)<19)))=_;congr 2;rw[eZ];omega,rfl⟩
 have L:¬(0:Int)<(t.size:Int):=by omega
 have G:t.size=0:=by omega
 have D:Hi (I=true):=by unfold Hi;rw[W.o];unfold ED;rw[R.o,yf2 d,zc2,G];rfl
 have K:((t.size:Int)==19)=false:=by rw[aF];omega
 have J:(t.size:Int)<19:=by omega
 clear G d;go_wp2_with fail;go_ret;exact⟨by rw[D.o];rfl,rfl⟩
def mq{P:Go.Program}{f:Go.FuncId}{args:Array Go.Value}{w:Go.World}{v:Go.Ending}{Q:Go.World->Prop}{K:Go.Ending->Go.World->Prop}(h:Go.Calls P f args w λe w'=>e=v/\Q w')(k:∀w',Q w'->K v w'):Go.Calls P f args w K:=h.mono λe w' ⟨d,o⟩=>d.symm▸k w' o
def oH{p q:Prop}(h:p)(f:p->q:=by omega):q:=f h
def oK{p q r:Prop}(h:p)(k:q)(f:p->q->r:=by omega):r:=f h k
end Go.Proofs.YthoegkcpmgalbaaGreatDoor
