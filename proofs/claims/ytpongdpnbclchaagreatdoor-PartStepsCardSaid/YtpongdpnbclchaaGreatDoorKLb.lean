import Derived.Test.YtpongdpnbclchaaGreatDoorRows
import Derived.WalkSpells
import Derived.WalkSmall
import Derived.BigQuiet
import Derived.Deep.RegionHeld3
import Derived.Deep.AppendLies
import Derived.Laws.AppendOwnNone
set_option maxHeartbeats 8000000
set_option linter.all false
namespace Go.Proofs.YtpongdpnbclchaaGreatDoor
variable{B b g k n s:Nat}{p:Prop}{t:TypeId}{v:Value}{w w0:World}{xs:List Value}
section
open Go.RowKit
abbrev nI(z:Int):Go.Value:=.int .i64 z
abbrev sZ:Go.Value:=.slice none 0 0
abbrev aD(g o:Nat):Go.Addr:=⟨g,o,none⟩
abbrev sA(g o:Nat):Option Go.Addr:=some ⟨g,o,none⟩
abbrev pA(g o:Nat):Go.Value:=.pointer (some ⟨g,o,none⟩)
theorem oM(h:p:=by omega):p:=h
theorem kR(h:p:=by kernel_rfl):p:=h
theorem dC(h:p:=by decide):p:=h
theorem sI(h:p:=by simp):p:=h
abbrev nR_:=@Nat.le_refl
abbrev gG_:=@List.getElem?_eq_getElem
abbrev lL_:=@Nat.lt_of_lt_of_le
abbrev dF_:=@decide_eq_false
abbrev dT_:=@decide_eq_true
abbrev zL_:=@Nat.zero_le
abbrev mG_:=@List.mem_of_getElem?
def Hi(p:Prop):Prop:=p
theorem Hi.o(h:Hi p):p:=h
theorem qq{α:Sort _}(a:α):∃z,z=a:=⟨a,rfl⟩
def Ok(w0 w:World):Prop:=Below w0.heap.size w0 w
theorem hid(h:p):Hi p:=h
theorem Ok.refl(w:World):Ok w w:=Below.refl _ _
theorem Ok.step{w1:World}(h:Ok w0 w)(hb:Below w.heap.size w w1):Ok w0 w1:=Below.trans h (hb.mono (Below.size h))
theorem Ok.alloc(h:Ok w0 w)(o:Obj):Ok w0 (w.alloc o):=Below.alloc h (Below.size h) o
theorem Ok.draws(h:Ok w0 w)(n:Nat):Ok w0 (w.drewN n):=below_drewN h n
theorem Ok.set(h:Ok w0 w){p:Addr}(hp:w0.heap.size<=p.block)(u:Value):Ok w0 (w.setCell p u):=Below.setCell h hp u
theorem Ok.le(h:Ok w0 w):w0.heap.size<=w.heap.size:=Below.size h
theorem za3(w:World)(o:Obj):(w.alloc o).heap[w.heap.size]?=some o:=by show(w.heap.push o)[w.heap.size]?=some o;simp
theorem heap_at(w:World)(a:Obj)(g:Nat)(h:g=w.heap.size):(w.alloc a).heap[g]?=some a:=by subst h;exact za3 _ _
theorem heap_past(w:World)(a:Obj)(g:Nat){x:Option Obj}(h:g<w.heap.size)(e:w.heap[g]?=x):(w.alloc a).heap[g]?=x:=by rw[Below.heap_alloc _ _ _ h];exact e
theorem jj(h:p:=by repeat (first|(refine heap_at _ _ _ ?hx; case hx => (first|(simp; done) | (simp; omega))) | (refine heap_past _ _ _ ?hy ?_; case hy => (first|(simp; done) | (simp; omega)))|fail)):p:=h
theorem Ok.row(h:Ok w0 w){x:Option Obj}(hg:g<w0.heap.size)(e:w0.heap[g]?=x):w.heap[g]?=x:=by rw[Below.block h g hg];exact e
theorem Ok.row'(h:Ok w0 w){o:Obj}(e:w0.heap[g]?=some o):w.heap[g]?=some o :=
 Ok.row h ((Array.getElem?_eq_some_iff.1 e).1) e
theorem za2{o:Obj}(e:w.heap[g]?=some o):g<w.heap.size:=(Array.getElem?_eq_some_iff.1 e).1
theorem zd1{u:Value}(h:w.heap[g]?=some (.cells #[u,v] t (0,0))) :
  w.cell? (aD g 0)=some u/\w.cell? (aD g 1)=some v/\w.frozen? (aD g 0)=false/\w.frozen? (aD g 1)=false:=by
 refine⟨?_,?_,frozen_of_row _ _ _ _ _ h,frozen_of_row _ _ _ _ _ h⟩
 ·exact(cell_of_row _ _ 0 _ _ _ h).trans sI
 exact(cell_of_row _ _ 1 _ _ _ h).trans sI
theorem Ok.cell(h:Ok w0 w){p:Addr}(hp:p.block<w0.heap.size)(e:w0.cell? p=some v):w.cell? p=some v:=by rw[Below.cell h hp];exact e
theorem zc0{P:Program}{fn:Func}{p u:Tmp}{ty:TypeId}(h:fn.results=#[.cell p ty,.tmp u])(tmps:Array Value)(w:World)(g:Nat)(t:TypeId)(cs:Array Value)(fr:Nat×Nat)(d:TypeDesc)
  (hp:tmps.getD p undef=pA g 0) (hg:w.heap[g]?=some (.cells cs t fr))
  (hu:P.underlying ty=some d) (hd:(match d with | .struct _ | .array _ _=>true | _=>false)=true) (hi:(P.info? ty).map (·.size)=some cs.size) :
  (results fn tmps).run P w=.ok (.tuple #[.agg cs,tmps.getD u undef]) w:=by
 have hp':tmps[p]?.getD undef=pA g 0:=by simpa using hp
 rw[results_cell_tmp h];simp[hp',asAddr,run_loadVar_row w g t ty cs fr d hg hu hd hi,Result.andThen]
theorem zu1{w':World}(h:Below w.heap.size w w'):w.grownBy w' none:=⟨h.os,h.tape,h.output,h.size,λk hk _=>h.block k hk⟩
theorem zb7(g o j:Nat):(⟨g,o,none⟩:Addr).add j=⟨g,o+j,none⟩:=by unfold Addr.add;split<;>simp_all
theorem zA4(hb:w.heap[B]?=some (.cells xs.toArray t (0,0))):∀j u,xs[j]?=some u->w.cell? ((⟨B,0,none⟩:Addr).add j)=some u:=λj u hu=>World.news_of_block hb j u (by simpa using hu)
theorem zg6{z:Value}(h:(Tryz.prog.info? t).map (λi=>(i.zero,i.size,i.bytes))=some (some z,s,b)):∃i,Tryz.prog.info? t=some i/\i.zero=some z/\i.size=s/\i.bytes=b:=by
 cases hq:Tryz.prog.info? t with
 | none=>rw[hq]at h;cases h
 | some i=>rw[hq]at h;simp at h;exact⟨i,rfl,h.1,h.2.1,h.2.2⟩
theorem zd3{x:Int}{k:Nat}(e:x=(k:Int))(h:k<9223372036854775808):IntKind.i64.wrap x=(k:Int):=by rw[IntKind.wrap_i64];omega
theorem za0{e:TypeId}(h:w.ownsRow B e s v n xs):∃ao cap,v=.slice ao n cap:=by
 rcases h.2 with ⟨h1,h2⟩ | ⟨g,cap,cur,h1,_⟩
 ·exact⟨none,0,by rw[h1,h2]⟩
 exact⟨_,cap,h1⟩
theorem za7{B' e:Nat}(h:w.ownsRow B' e s v n xs)(hB:B<=B'):w.ownsRow B e s v n xs:=by
 refine⟨h.1,?_⟩;rcases h.2 with h1 | ⟨g,cap,cur,h1,h2,h3⟩
 ·exact .inl h1
 exact .inr ⟨g,cap,cur,h1,Nat.le_trans hB h2,h3⟩
theorem zb4{w':World}{e:TypeId}(h:w.ownsRow B e s v n xs)(hk:∀b,v.ownBlock=some b->w'.heap[b]?=w.heap[b]?):w'.ownsRow B e s v n xs:=by
 refine⟨h.1,?_⟩;rcases h.2 with h1 | ⟨g,cap,cur,rfl,h1,h2,h3⟩
 ·exact .inl h1
 exact .inr ⟨g,cap,cur,rfl,h1,(hk g rfl).trans h2,h3⟩
theorem za5{a:Nat}(h:a<b):(a:Int)<(b:Int):=by omega
theorem zb2{a:Nat}(h:¬a<b):¬(a:Int)<(b:Int):=by omega
theorem zb3(hk:k<1000000000000):IntKind.i64.wrap ((k:Int)+1)=((k+1:Nat):Int):=zd3 oM oM
theorem we3{l:Nat}(h:k<l):((l:Int)-((k+1:Nat):Int)).toNat<((l:Int)-(k:Int)).toNat:=by omega
theorem za4{a b:Bool}(h:a=b):Ending.returned (.bool a)=.returned (.bool b):=by rw[h]
def DA(c:UInt8):Bool:=(97<=c&&c<=122)||(65<=c&&c<=90)||c==95
def BX(c:UInt8):Bool:=48<=c&&c<=57
def wj4(c:UInt8):Bool:=c==9||c==10||c==13||c==32
theorem wb7(c d:UInt8):(c==d)=decide (c.toNat=d.toNat):=by rw[Bool.eq_iff_iff];simp only[beq_iff_eq,decide_eq_true_eq];exact⟨λh=>by rw[h],λh=>UInt8.toNat_inj.1 h⟩
theorem zo8(c:UInt8):DA c=true↔(97<=c.toNat/\c.toNat<=122)\/(65<=c.toNat/\c.toNat<=90)\/c.toNat=95:=by unfold DA;rw[wb7];simp[UInt8.le_iff_toNat_le,or_assoc]
theorem zi3(c:UInt8):BX c=true↔48<=c.toNat/\c.toNat<=57:=by unfold BX;simp[UInt8.le_iff_toNat_le]
theorem ye9(c:UInt8):wj4 c=true↔c.toNat=9\/c.toNat=10\/c.toNat=13\/c.toNat=32:=by unfold wj4;rw[wb7,wb7,wb7,wb7];simp[or_assoc]
theorem ze9(c:UInt8)(w:World) :
  Calls Tryz.prog 103 #[.int .u8 c.toNat] w λe w'=>e=.returned (.bool (BX c))/\w'=w:=by
 go_enter Tryz.func103,Tryz.ntmps103;go_wp2
 all_goals (go_ret;refine⟨za4 ?_,rfl⟩;rw[Bool.eq_iff_iff,zi3];simp;omega)
theorem ze0(c:UInt8)(w:World) :
  Calls Tryz.prog 102 #[.int .u8 c.toNat] w λe w'=>e=.returned (.bool (DA c))/\w'=w:=by
 go_enter Tryz.func102,Tryz.ntmps102;go_wp2
 all_goals (go_ret;refine⟨za4 ?_,rfl⟩;rw[Bool.eq_iff_iff,zo8];simp;omega)
theorem zp9(c:UInt8)(w:World) :
  Calls Tryz.prog 101 #[.int .u8 c.toNat] w λe w'=>e=.returned (.bool (wj4 c))/\w'=w:=by
 go_enter Tryz.func101,Tryz.ntmps101;go_wp2
 all_goals (go_ret;refine⟨za4 ?_,rfl⟩;rw[Bool.eq_iff_iff,ye9];simp;omega)
theorem pu:(∀(a:Act) (v:Value),a.put none v=a)/\(∀(a:Act) (t:Tmp) (v:Value),a.put (some t) v={ a with tmps:=a.tmps.setIfInBounds t v })/\(∀(l:List Oper) (i:Nat) (h:i<l.toArray.size),l.toArray[i]=l[i]'(by simpa using h))/\(∀(x:Oper) (l:List Oper) (i:Nat) (h:i+1<(x::l).length),(x::l)[i+1]=l[i]'(Nat.lt_of_succ_lt_succ h))/\(∀(x:Oper) (l:List Oper) (h:0<(x::l).length),(x::l)[0]=x)/\(∀(l:List Value) (i:Nat) (v:Value),l.toArray.setIfInBounds i v=(l.set i v).toArray)/\(∀(x v:Value) (l:List Value),(x::l).set 0 v=v::l)/\(∀(x v:Value) (l:List Value) (i:Nat),(x::l).set (i+1) v=x::l.set i v) :=
 ⟨λ_ _=>rfl,λ_ _ _=>rfl,λ_ _ _=>rfl,λ_ _ _ _=>rfl,λ_ _ _=>rfl,λl i v=>List.setIfInBounds_toArray l i v,λ_ _ _=>rfl,λ_ _ _ _=>rfl⟩
end
section
open Go.RowKit
theorem zc2(s:ByteArray):s.toList.length=s.size:=by rw[ByteArray.toList_eq,Array.length_toList];rfl
theorem zd7(s:ByteArray)(k:Nat)(h:k<s.size):s.toList.drop k=s[k]::s.toList.drop (k+1):=by rw[ByteArray.toList_eq,List.drop_eq_getElem_cons (by simpa using h)];rfl
theorem zm2(s:ByteArray)(k:Nat)(h:¬k<s.size):s.toList.drop k=[]:=List.drop_eq_nil_of_le (by rw[zc2];omega)
def DK(p:UInt8->Bool):List UInt8->Nat
 | []=>0
 | c::r=>if p c then DK p r+1 else 0
theorem zL0{p:UInt8->Bool}{s:ByteArray}(h:k<s.size)(hp:p s[k]=true):DK p (s.toList.drop k)=DK p (s.toList.drop (k+1))+1:=by rw[zd7 s k h];simp[DK,hp]
theorem yf0{p:UInt8->Bool}{s:ByteArray}(h:k<s.size)(hp:p s[k]=false):DK p (s.toList.drop k)=0:=by rw[zd7 s k h];simp[DK,hp]
theorem zL1{p:UInt8->Bool}{s:ByteArray}(h:¬k<s.size):DK p (s.toList.drop k)=0:=by rw[zm2 s k h];rfl
theorem zA5(p:UInt8->Bool):∀l,DK p l<=l.length
 | []=>nR_ _
 | c::r=>by
  unfold DK
  split
  ·have:=zA5 p r;simp;omega
  exact zL_ _
def wk5(c:UInt8):Bool := !(c==10)
def EL:List UInt8->Nat
 | []=>0
 | c::r=>if wj4 c then 1 else if c==35 then DK wk5 (c::r) else 0
theorem zQ9(c:UInt8):wk5 c=true↔¬c.toNat=10:=by unfold wk5;rw[wb7];simp
theorem zq0(s:ByteArray)(i:Nat)(hi:i<s.size)(hs:s.size<=1000000)(w:World) :
  Calls Tryz.prog 67 #[.string s,nI (i:Nat)] w λe w'=>e=.returned (nI ((i+EL (s.toList.drop i):Nat):Int))/\w'=w:=by
 have hi':(i:Int)<(s.size:Int):=by omega
 have hiw:IntKind.i64.wrap ((i:Int)+1)=((i+1:Nat):Int):=zb3 oM;obtain⟨c,hc⟩:=qq (s[i]);have HD:Hi (s.toList.drop i=c::s.toList.drop (i+1)):=by rw[hc];exact zd7 s i hi
 have hci:(s[i].toNat:Int)=(c.toNat:Int):=by rw[hc]
 have HI:=hid hi;obtain⟨ans,hans⟩:=qq (i+EL (s.toList.drop i));rw[<-hans];have HA:Hi (ans=i+EL (s.toList.drop i)):=hans;have HC:Hi (c=s[i]):=hc;clear hans hc
 cases hb:wj4 c with
 | true =>
  have HB:Hi (ans=i+1):=by unfold Hi;rw[HA.o,HD.o];simp[EL,hb]
  go_enter Tryz.func67,Tryz.ntmps67
  go_wp2_with (go_at_call 101;refine(zp9 c _).mono ?_;rintro e w1 ⟨rfl,hw⟩;replace hw:=hw.symm;subst hw;rw[hb])
  go_ret;exact⟨by rw[HB.o];rfl,rfl⟩
 | false =>
  by_cases h35:c.toNat=35
  ·have HB:Hi (ans=i+DK wk5 (s.toList.drop i)):=by
    have e35:(c==35)=true:=by rw[wb7];simpa using h35
    unfold Hi;rw[HA.o];congr 1;rw[HD.o];simp only[EL,hb,e35];rfl
   have h35':((c.toNat:Int)==35)=true:=by rw[beq_iff_eq];omega
   clear h35;go_enter Tryz.func67,Tryz.ntmps67
   go_wp2_with (go_at_call 101;refine(zp9 c _).mono ?_;rintro e w1 ⟨rfl,hw⟩;replace hw:=hw.symm;subst hw;rw[hb])
   go_loopw [1] (λx wr=>∃(j:Nat),j<=s.size/\x=nI (j:Nat)/\Hi (ans=j+DK wk5 (s.toList.drop j))/\wr=w) (λx _=>((s.size:Int)-intOf x).toNat)
   case atStart=>exact⟨i,Nat.le_of_lt HI.o,rfl,HB,rfl⟩
   obtain⟨j,hj,rfl,HJ,rfl⟩:=hrel;clear hi' hiw hci h35' hb hi;by_cases hjl:j<s.size
   ·have hjl':(j:Int)<(s.size:Int):=za5 hjl
    have hjw:IntKind.i64.wrap ((j:Int)+1)=((j+1:Nat):Int):=zb3 oM;obtain⟨d,hd⟩:=qq (s[j]);have hdi:(s[j].toNat:Int)=(d.toNat:Int):=by rw[hd]
    by_cases h10:d.toNat=10
    ·have h10':((d.toNat:Int)==10)=true:=by rw[beq_iff_eq];omega
     have HE:Hi (ans=j):=by unfold Hi;rw[HJ.o,yf0 hjl (by rw[<-hd,Bool.eq_false_iff];intro h;exact(zQ9 d).1 h h10)];rfl
     clear hd h10;go_wp2_with fail;go_ret;exact⟨by rw[HE.o];rfl,rfl⟩
    have h10':((d.toNat:Int)==10)=false:=by rw[beq_eq_false_iff_ne];omega
    have HE:Hi (ans=(j+1)+DK wk5 (s.toList.drop (j+1))):=by unfold Hi;rw[HJ.o,zL0 hjl (by rw[<-hd];exact(zQ9 d).2 h10)];omega
    clear hd h10;go_wp2_with fail;go_roundw
    case rel=>exact⟨j+1,hjl,rfl,HE,trivial⟩
    case measure=>exact we3 hjl
   have hjl':¬(j:Int)<(s.size:Int):=zb2 hjl;have HE:Hi (ans=j):=by unfold Hi;rw[HJ.o,zL1 hjl];rfl
   go_wp2_with fail;go_ret;exact⟨by rw[HE.o];rfl,rfl⟩
  have HB:Hi (ans=i):=by unfold Hi;rw[HA.o,HD.o];simp[EL,hb,wb7,h35]
  have h35':((c.toNat:Int)==35)=false:=by rw[beq_eq_false_iff_ne];omega
  go_enter Tryz.func67,Tryz.ntmps67
  go_wp2_with (go_at_call 101;refine(zp9 c _).mono ?_;rintro e w1 ⟨rfl,hw⟩;replace hw:=hw.symm;subst hw;rw[hb])
  go_ret;exact⟨by rw[HB.o];rfl,rfl⟩
def wh0(n:Int):List UInt8->Int
 | []=>n
 | c::r=>wh0 (wrap64 (wrap64 (n*10)+((c.toNat:Int)-48))) r
theorem zG3(s:ByteArray)(hs:s.size<=1000000)(hd:∀i (h:i<s.size),BX s[i]=true)(w:World) :
  Calls Tryz.prog 105 #[.string s] w λe w'=>e=.returned (nI (wh0 0 s.toList))/\w'=w:=by
 obtain⟨ans,hans⟩:=qq (wh0 0 s.toList);rw[<-hans];have HA:Hi (ans=wh0 0 (s.toList.drop 0)):=hans;have HD:=hid hd;clear hans hd;go_enter Tryz.func105,Tryz.ntmps105;go_wp2_with fail;go_loopw [3,4] (λn x wr=>∃(m:Int) (j:Nat),j<=s.size/\n=nI m/\x=nI (j:Nat)/\Hi (ans=wh0 m (s.toList.drop j))/\wr=w) (λ_ x _=>((s.size:Int)-intOf x).toNat)
 case atStart=>exact⟨0,0,zL_ _,rfl,rfl,HA,rfl⟩
 obtain⟨m,j,hj,rfl,rfl,HJ,rfl⟩:=hrel;by_cases hjl:j<s.size
 ·have hjl':(j:Int)<(s.size:Int):=za5 hjl
  have hjw:IntKind.i64.wrap ((j:Int)+1)=((j+1:Nat):Int):=zb3 oM;obtain⟨d,hd⟩:=qq (s[j]);have hdi:(s[j].toNat:Int)=(d.toNat:Int):=by rw[hd]
  have hdd:=(zi3 d).1 (by rw[hd];exact HD.o j hjl);have hu8:IntKind.u8.wrap ((d.toNat:Int)-48)=(d.toNat:Int)-48:=by rw[IntKind.wrap_u8];omega
  have HE:Hi (ans=wh0 (wrap64 (wrap64 (m*10)+((d.toNat:Int)-48))) (s.toList.drop (j+1))):=by unfold Hi;rw[HJ.o,zd7 s j hjl,<-hd];rfl
  clear hd;go_wp2_with fail;go_roundw
  case rel=>exact⟨wrap64 (wrap64 (m*10)+((d.toNat:Int)-48)),j+1,hjl,rfl,rfl,HE,trivial⟩
  case measure=>exact we3 hjl
 have hjl':¬(j:Int)<(s.size:Int):=zb2 hjl;have HE:Hi (ans=m):=by unfold Hi;rw[HJ.o,zm2 s j hjl];rfl
 go_wp2_with fail;go_ret;exact⟨by rw[HE.o];rfl,rfl⟩
def DR:List UInt8->List UInt8
 | []=>[]
 | c::r=>if c==48 then DR r else c::r
def wm4:ByteArray:=⟨#[57,50,50,51,51,55,50,48,51,54,56,53,52,55,55,53,56,48,55]⟩
def wk6(l:List UInt8):Bool:=Op.bytesLess l wm4.toList||l==wm4.toList
def DY(l:List UInt8):Bool:=if (DR l).length=19 then wk6 (DR l) else decide ((DR l).length<19)
theorem ze5(s:ByteArray)(a b:Nat):(s.extract a b).toList=(s.toList.drop a).take (b-a):=by rw[ByteArray.toList_eq,ByteArray.toList_eq,ByteArray.data_extract,Array.toList_extract]
theorem yf1{t:ByteArray}(h:0<t.size)(h48:t[0].toNat=48):DR t.toList=DR (t.extract 1 t.size).toList:=by
 have e:=zd7 t 0 h;rw[List.drop_zero]at e;rw[ze5,List.take_of_length_le (by rw[List.length_drop,zc2];exact Nat.le_refl _),e];have:(t[0]==48)=true:=by rw[wb7];simpa using h48
 simp[DR,this]
theorem yq2{t:ByteArray}(h:0<t.size)(h48:¬t[0].toNat=48):DR t.toList=t.toList:=by
 have e:=zd7 t 0 h;rw[List.drop_zero]at e;rw[e];have:(t[0]==48)=false:=by rw[wb7];simpa using h48
 simp[DR,this]
theorem yf2{t:ByteArray}(h:¬0<t.size):DR t.toList=t.toList:=by have e:=zm2 t 0 h;rw[List.drop_zero]at e;rw[e];rfl
theorem zm3(s:ByteArray)(hs:s.size<=1000000)(w:World) :
  Calls Tryz.prog 104 #[.string s] w λe w'=>e=.returned (.bool (DY s.toList))/\w'=w:=by
 obtain⟨ans,hans⟩:=qq (DY s.toList);rw[<-hans];have HA:Hi (ans=DY s.toList):=hans;clear hans;go_enter Tryz.func104,Tryz.ntmps104;go_wp2_with fail;go_loopw [0] (λx wr=>∃(t:ByteArray),t.size<=s.size/\x=.string t/\Hi (DR s.toList=DR t.toList)/\wr=w) (λx _=>match x with | .string t=>t.size | _=>0)
 case atStart=>exact⟨s,nR_ _,rfl,rfl,rfl⟩
 obtain⟨t,ht,rfl,HT,rfl⟩:=hrel;by_cases ht0:0<t.size
 ·have ht0':(0:Int)<(t.size:Int):=by omega
  have ht1:1<=t.size:=ht0;by_cases h48:t[0].toNat=48
  ·have h48':((t[0].toNat:Int)==48)=true:=by rw[beq_iff_eq];omega
   have HN:=hid (HT.o.trans (yf1 ht0 h48));have hsz:(t.extract 1 t.size).size=t.size-1:=by rw[ByteArray.size_extract];omega
   have HSZ:Hi _:=hsz;clear h48 hsz;go_wp2_with fail;go_roundw
   case rel=>exact⟨t.extract 1 t.size,by rw[HSZ.o];omega,rfl,HN,trivial⟩
   case measure=>show(t.extract 1 t.size).size<t.size;rw[HSZ.o];omega
  have h48':((t[0].toNat:Int)==48)=false:=by rw[beq_eq_false_iff_ne];omega
  have HE:Hi (DR s.toList=t.toList/\t.toList.length=t.size):=⟨HT.o.trans (yq2 ht0 h48),zc2 t⟩;clear h48;by_cases h19:t.size=19
  ·have h19':((t.size:Int)==19)=true:=by rw[beq_iff_eq];omega
   have hle:∀w,(binOp BinOp.leq 9 (.string t) (.string ⟨#[57,50,50,51,51,55,50,48,51,54,56,53,52,55,55,53,56,48,55]⟩)).run Tryz.prog w=.ok (.bool (wk6 t.toList)) w:=λw=>rfl
   have HAN:Hi (ans=wk6 t.toList):=by unfold Hi;rw[HA.o];unfold DY;rw[HE.o.1,HE.o.2,if_pos h19]
   clear h19;go_wp2_with fail;go_ret;exact⟨by rw[HAN.o];rfl,rfl⟩
  have h19':((t.size:Int)==19)=false:=by rw[beq_eq_false_iff_ne];omega
  have HAN:Hi (ans=decide (t.size<19)):=by unfold Hi;rw[HA.o];unfold DY;rw[HE.o.1,HE.o.2,if_neg h19]
  have h19n:(↑t.size != (19:Int))=true:=by rw[bne,h19'];rfl
  clear h19;go_wp2_with fail;go_ret;exact⟨by rw[HAN.o];show Ending.returned (.bool (decide ((t.size:Int)<19)))=_;congr 2;rw[decide_eq_decide];omega,rfl⟩
 have ht0':¬(0:Int)<(t.size:Int):=by omega
 have ht00:t.size=0:=by omega
 have HAN:Hi (ans=true):=by unfold Hi;rw[HA.o];unfold DY;rw[HT.o,yf2 ht0,zc2,ht00];rfl
 have hz:((t.size:Int)==19)=false:=by rw[beq_eq_false_iff_ne];omega
 have hz2:(t.size:Int)<19:=by omega
 clear ht00 ht0;go_wp2_with fail;go_ret;exact⟨by rw[HAN.o];rfl,rfl⟩
end
theorem mq{P:Go.Program}{f:Go.FuncId}{args:Array Go.Value}{w:Go.World}{v:Go.Ending}{Q:Go.World->Prop}{K:Go.Ending->Go.World->Prop}(h:Go.Calls P f args w λe w'=>e=v/\Q w')(k:∀w',Q w'->K v w'):Go.Calls P f args w K:=h.mono λe w' ⟨h1,h2⟩=>h1.symm▸k w' h2
end Go.Proofs.YtpongdpnbclchaaGreatDoor
