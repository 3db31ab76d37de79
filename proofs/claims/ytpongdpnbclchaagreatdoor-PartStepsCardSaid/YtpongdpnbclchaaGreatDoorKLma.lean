import Derived.Test.YtpongdpnbclchaaGreatDoorKLk
set_option maxHeartbeats 8000000
set_option linter.all false
set_option maxRecDepth 100000
namespace Go.Proofs.YtpongdpnbclchaaGreatDoor
variable{P:RP}{a a' a2 a6 a7 k row:Nat}{b6 b7 bad' bad2:Int}{f:ByteArray×Int->Value}{s:ByteArray}{t:List UInt8}{w w':World}
section
open Go.RowKit
theorem zd8{ops:Array Oper}{rest:List Oper}{op:Oper}{a:Act}{Q:Exit->Act->World->Prop}(hgd:op.guard=none)(s x:Operand)
  (ho:op.op=.call { callee:=.builtin .append,args:=#[s,x],argTypes:=#[29,29] })
  (base:Nat) (sv:Value) (k:Nat) (A:List Nd) (hs:a.eval s=sv) (hown:w.ownsRow base 78 6 sv k (ndL A))
  (B:Nat) (v:Value) (ts:List Nd) (hx:a.eval x=v) (hT:NL w B v ts)
  (hb:k+ts.length<=1000000) (hbase:base<=w.heap.size)
  (h:∀v' w',w'.ownsRow base 78 6 v' (k+ts.length) (ndL (A++ts))->w.grownBy w' sv.ownBlock->wpList Tryz.prog ops Q rest (a.put op.dst v') w'):wpList Tryz.prog ops Q (op::rest) a w:=by
 obtain⟨i,hi,hz,hsz,hby⟩:=zg6 wm7;rcases hT.2 with ⟨rfl,h0⟩ | ⟨g,cap,cur,rfl,hBg,hg,hnc,hcm,hcs,htk⟩
 ·have hts:ts=[]:=List.length_eq_zero_iff.1 h0
  subst hts;refine wpList_append_own_none hgd s x 29 ho base 78 i 6 Tryz.underlying29 hi _ k (ndL A) hs hown hx ?_;exact h sv w (by rw[List.append_nil];exact hown) (World.grownBy.refl w _)
 by_cases hm:0<ts.length
 ·refine wpList_append_lies w hgd s x 29 ho base 78 i _ 6 56 Tryz.underlying29 hi hz hsz hby rfl dC _ k (ndL A) hs hown ⟨g,0,none⟩ ts.length cap (ndL ts) hx (zu2 ts) (hT.cells rfl) (zu3 ts) hm (by unfold maxLen;omega) oM hbase _ rfl ?_
  intro g' cap' w' k1 k2 k3 k4;exact h _ w' (by rw[zL4];exact k1) k2
 have hts:ts=[]:=List.length_eq_zero_iff.1 oM;subst hts;refine wpList_append_own_at w hgd s x 29 ho base 78 i _ 6 56 Tryz.underlying29 hi hz hsz hby rfl (by decide) _ k (ndL A) hs hown ⟨g,0,none⟩ 0 cap [] hx rfl (by intro j u hj;simp at hj) (by simp) (by unfold maxLen;omega) oM hbase ?_;intro v' w' k1 k2 k3 k4;exact h v' w' (by rw[zL4];exact k1) k2
def HD(w:World)(hv:Value)(ps:List (Value×List Nd)):Prop:=w.ownsRow 0 29 1 hv ps.length (ps.map Prod.fst)/\∀p∈ps,NL w 0 p.1 p.2
def held(ps:List (Value×List Nd)):List Nd:=(ps.map λp=>p.2.map DE).flatten
def BK(n:Nd)(ps:List (Value×List Nd)):List Nd:={ n with depth:=1 }::held ps
theorem zu4{ps:List (Value×List Nd)}{p:Value×List Nd}(h:ps[k]?=some p):held (ps.take (k+1))=held (ps.take k)++p.2.map DE:=by unfold held;rw[List.take_add_one,h,Option.toList_some,List.map_append,List.flatten_append];simp
theorem yA5{ps:List (Value×List Nd)}(k:Nat):(held (ps.take k)).length<=(held ps).length:=by
 have:held ps=held (ps.take k)++held (ps.drop k):=by unfold held;rw[<-List.flatten_append,<-List.map_append,List.take_append_drop]
 rw[this,List.length_append];omega
def NI(w:World)(n1:Nd)(ps:List (Value×List Nd))(wr:World)(v:Value)(N0 k:Nat):Prop:=Ok w wr/\wr.ownsRow w.heap.size 78 6 v N0 (ndL (n1::held (ps.take k)))/\N0=1+(held (ps.take k)).length
theorem NI.more{wr w1 w4:World}{n1:Nd}{ps:List (Value×List Nd)}{v v':Value}{N0:Nat}{p:Value×List Nd}(h:NI w n1 ps wr v N0 k)(hp:ps[k]?=some p)(hok:Ok wr w1)(ho:w4.ownsRow w.heap.size 78 6 v' (N0+(p.2.map DE).length) (ndL ((n1::held (ps.take k))++p.2.map DE)))(hg:w1.grownBy w4 v.ownBlock):NI w n1 ps w4 v' (N0+(p.2.map DE).length) (k+1):=by
 refine⟨(h.1.step hok).grown hg (λb hb=>(h.2.1.lt b hb).1),?_,?_⟩
 ·rw[zu4 hp,<-List.cons_append];exact ho
 rw[zu4 hp,List.length_append,h.2.2];omega
theorem zc3(w:World)(n:Nd)(hv:Value)(ps:List (Value×List Nd))(h:HD w hv ps)(hl:1+(held ps).length<=1000000)(hpl:ps.length<=1000) :
  Calls Tryz.prog 72 #[.agg #[nI n.depth,nI n.kind,.string n.name,nI n.num,nI n.op,nI n.pos],hv] w λe w'=>∃v',e=.returned v'/\NL w' w.heap.size v' (BK n ps)/\Ok w w':=by
 obtain⟨ao,cap,rfl⟩:=za0 h.1;have H:=hid h;clear h;obtain⟨dp,kd,nm,nu,op,pl⟩:=n;go_enter Tryz.func72,Tryz.ntmps72;go_wp2_with fail;obtain⟨W,hW⟩:=qq ((w.alloc (.cells #[nI 1,nI kd,.string nm,nI nu,nI op,nI pl] 78)).alloc (.cells #[nI 1,nI kd,.string nm,nI nu,nI op,nI pl] 78));rw[<-hW]
 have HW:Hi (NI w ⟨1,kd,nm,nu,op,pl⟩ ps W (.slice (some ⟨w.heap.size+1,0,none⟩) 1 1) 1 0):=by refine⟨by rw[hW];exact((Ok.refl w).alloc _).alloc _,⟨rfl,.inr ⟨w.heap.size+1,1,#[nI 1,nI kd,.string nm,nI nu,nI op,nI pl],rfl,Nat.le_succ _,?_,Nat.le_refl _,by decide,rfl,rfl⟩⟩,rfl⟩;rw[hW];exact heap_at _ _ _ (by simp)
 clear hW;go_loopw [5,6] (λo x wr=>∃(k N0:Nat) (oo:Option Addr) (oc:Nat),k<=ps.length/\o=.slice oo N0 oc/\x=nI (k:Nat)/\Hi (NI w ⟨1,kd,nm,nu,op,pl⟩ ps wr (.slice oo N0 oc) N0 k)) (λ_ x _=>((ps.length:Int)-intOf x).toNat)
 case atStart=>exact⟨0,1,_,_,zL_ _,rfl,rfl,HW⟩
 obtain⟨k,N0,oo,oc,hk,rfl,rfl,HJ⟩:=hrel;by_cases hkl:k<ps.length
 ·have hkl':(k:Int)<(ps.length:Int):=za5 hkl
  have hkw:IntKind.i64.wrap ((k:Int)+1)=((k+1:Nat):Int):=zb3 oM;obtain⟨p,hp⟩:∃p,ps[k]?=some p:=⟨ps[k],gG_ hkl⟩
  obtain⟨g,hao⟩:∃g,ao=some ⟨g,0,none⟩:=by
   obtain⟨g,c,e,_⟩:=H.o.1.form oM
   injection e with e1
   exact⟨g,e1⟩
  subst hao;have hgl:=(H.o.1.lt g rfl).2;have hrow:=za1 H.o.1 HJ.o.1;have c0:=hrow.cells (g:=g) rfl k p.1 (by rw[List.getElem?_map,hp];rfl);rw[zb7,Nat.zero_add]at c0;have hgw:g<wr.heap.size:=lL_ hgl HJ.o.1.le;have HP:=hid hp;have HNL:=hid (za1 (H.o.2 p (mG_ hp)) HJ.o.1)
  have HB:Hi (p.2.length<=1000000/\N0+(p.2.map DE).length<=1000000):=by have h1:=yA5 (ps:=ps) (k+1);rw[zu4 hp,List.length_append,List.length_map]at h1;have:=HJ.o.2.2;rw[Hi,List.length_map];omega
  clear hrow hp;obtain⟨pv,pn⟩:=p;simp only at c0
  go_wp2_with (first
   |(go_at_call 108;refine(zV7 _ 0 pv pn HNL.o HB.o.1).mono ?_;rintro e w1 ⟨v1,rfl,hn1,hok⟩;have HN1:=hid hn1;have HK:=hid hok;clear hn1 hok)
   |(at_builtin;refine zd8 rfl _ _ rfl w.heap.size _ N0 _ (by rfl) (za1 HJ.o.2.1 HK.o) wr.heap.size v1 (pn.map DE) (by rfl) HN1.o HB.o.2 (Nat.le_trans HJ.o.1.le HK.o.le) ?_;intro v4 w4 hown4 hgrow;have HO4:=hid (NI.more HJ.o HP.o HK.o hown4 hgrow);obtain⟨o4,c4,rfl⟩:=za0 hown4;clear hown4 hgrow)
   | fail)
  go_roundw
  case rel=>exact⟨k+1,_,_,_,hkl,rfl,rfl,(by have h:=HO4.o;rw[List.length_map]at h;exact h)⟩
  case measure=>exact we3 hkl
 have hkl':¬(k:Int)<(ps.length:Int):=zb2 hkl;have hke:k=ps.length:=oM;subst hke
 have HE:Hi (NL wr w.heap.size (.slice oo N0 oc) (BK ⟨dp,kd,nm,nu,op,pl⟩ ps)):=by have h1:=HJ.o.2.1;have h2:=HJ.o.2.2;rw[List.take_length]at h1 h2;unfold Hi NL BK;rw[List.length_cons,Nat.add_comm,<-h2];exact h1
 go_wp2_with fail;go_ret;exact⟨_,rfl,HE.o,HJ.o.1⟩
end
section
open Go.RowKit
def wb8:List (List (ByteArray×Int)):=[[(⟨#[124,124]⟩,15)],[(⟨#[38,38]⟩,14)],[(⟨#[60]⟩,8),(⟨#[60,61]⟩,9),(⟨#[62]⟩,10),(⟨#[62,61]⟩,11),(⟨#[61,61]⟩,12),(⟨#[33,61]⟩,13)],[(⟨#[43]⟩,3),(⟨#[45]⟩,4)],[(⟨#[42]⟩,5),(⟨#[47]⟩,6),(⟨#[37]⟩,7)]]
def vS(p:ByteArray×Int):Value:=.string p.1
def vI(p:ByteArray×Int):Value:=nI p.2
def TB(w':World)(b:Nat)(f:ByteArray×Int->Value):Prop:=b+5<w'.heap.size/\∀r L,wb8[r]?=some L->w'.cell? ⟨b+5,r,none⟩=some (.slice (some ⟨b+r,0,none⟩) L.length L.length)/\∀j p,L[j]?=some p->w'.cell? ⟨b+r,j,none⟩=some (f p)
theorem zj6{g:Nat}{L:List (ByteArray×Int)}{t:TypeId}(h:w'.heap[g]?=some (.cells (L.map f).toArray t (0,0))):∀j p,L[j]?=some p->w'.cell? (aD g j)=some (f p):=by intro j p hp;refine(cell_of_row _ _ j _ _ _ h).trans ?_;rw[List.getElem?_toArray,List.getElem?_map,hp];rfl
theorem TB.mk{b:Nat}{t u:TypeId}(h0:w'.heap[b]?=some (.cells ((wb8[0]).map f).toArray t (0,0)))(h1:w'.heap[b+1]?=some (.cells ((wb8[1]).map f).toArray t (0,0)))(h2:w'.heap[b+2]?=some (.cells ((wb8[2]).map f).toArray t (0,0)))(h3:w'.heap[b+3]?=some (.cells ((wb8[3]).map f).toArray t (0,0)))(h4:w'.heap[b+4]?=some (.cells ((wb8[4]).map f).toArray t (0,0)))
  (h5:w'.heap[b+5]?=some (.cells #[.slice (sA b 0) 1 1,.slice (some ⟨b+1,0,none⟩) 1 1,.slice (some ⟨b+2,0,none⟩) 6 6,.slice (some ⟨b+3,0,none⟩) 2 2,.slice (some ⟨b+4,0,none⟩) 3 3] u (0,0))):TB w' b f:=by
 refine⟨za2 h5,?_⟩;intro r L hr;have hr5:r<5:=(List.getElem?_eq_some_iff.1 hr).1;have hc:=cell_of_row _ _ r _ _ _ h5;rcases(by omega:r=0\/r=1\/r=2\/r=3\/r=4) with rfl | rfl | rfl | rfl | rfl
 ·cases hr;exact⟨hc,zj6 h0⟩
 ·cases hr;exact⟨hc,zj6 h1⟩
 ·cases hr;exact⟨hc,zj6 h2⟩
 ·cases hr;exact⟨hc,zj6 h3⟩
 cases hr;exact⟨hc,zj6 h4⟩
theorem TB.ok{b:Nat}(h:TB w b f)(hk:Ok w w'):TB w' b f:=by refine⟨lL_ h.1 hk.le,λr L hr=>?_⟩;have hr5:r<5:=(List.getElem?_eq_some_iff.1 hr).1;have:=h.1;exact⟨hk.cell (p:=⟨b+5,r,none⟩) h.1 (h.2 r L hr).1,λj p hp=>hk.cell (p:=⟨b+r,j,none⟩) (show b+r<w.heap.size by omega) ((h.2 r L hr).2 j p hp)⟩
theorem yr2(w:World) :
  Calls Tryz.prog 138 #[] w λe w'=>e=.returned (.slice (some ⟨w.heap.size+5,0,none⟩) 5 5)/\TB w' w.heap.size vS/\Ok w w':=by
 go_enter Tryz.func138,Tryz.ntmps138;go_wp2_with fail;go_ret;refine⟨rfl,TB.mk (t:=9) (u:=30) ?_ ?_ ?_ ?_ ?_ ?_,((((((Ok.refl w).alloc _).alloc _).alloc _).alloc _).alloc _).alloc _⟩
 all_goals repeat (first | exact heap_at _ _ _ (by simp) | refine heap_past _ _ _ (by first|(simp;done) | (simp;omega)) ?_)
theorem yA6(w:World) :
  Calls Tryz.prog 139 #[] w λe w'=>e=.returned (.slice (some ⟨w.heap.size+5,0,none⟩) 5 5)/\TB w' w.heap.size vI/\Ok w w':=by
 go_enter Tryz.func139,Tryz.ntmps139;go_wp2_with fail;go_ret;refine⟨rfl,TB.mk (t:=3) (u:=25) ?_ ?_ ?_ ?_ ?_ ?_,((((((Ok.refl w).alloc _).alloc _).alloc _).alloc _).alloc _).alloc _⟩
 all_goals repeat (first | exact heap_at _ _ _ (by simp) | refine heap_past _ _ _ (by first|(simp;done) | (simp;omega)) ?_)
def opF(P:RP)(a:Nat)(bad:Int):List (ByteArray×Int)->Int
 | []=>0
 | p::r=>if isS P a bad p.1.toList then p.2 else opF P a bad r
def opS(P:RP)(a:Nat)(bad:Int)(row:Nat):Int:=match wb8[row]? with | some L=>opF P a bad L | none=>0
theorem yr3{bad:Int}{L:List (ByteArray×Int)}{p:ByteArray×Int}(h:L[k]?=some p):opF P a bad (L.drop k)=if isS P a bad p.1.toList then p.2 else opF P a bad (L.drop (k+1)):=by obtain⟨hk,e⟩:=List.getElem?_eq_some_iff.1 h;rw[List.drop_eq_getElem_cons hk,e];rfl
theorem yf7{bad:Int}:∀{L:List (ByteArray×Int)},opF P a bad L≠0->bad<0/\a<P.ts.length
 | [],h=>absurd rfl h
 | p::r,h=>by
  unfold opF at h
  split at h
  ·next hi=>exact zb9 hi
  exact yf7 h
theorem zm4(P:RP)(rb:Nat)(w:World)(a:Nat)(bad:Int)(row:Nat)(hrow:row<5)(h:RI P rb w a bad) :
  Calls Tryz.prog 110 #[pA rb 0,nI (row:Nat)] w λe w'=>e=.returned (nI (opS P a bad row))/\Ok w w':=by
 have H:=hid h;clear h;obtain⟨L,hL⟩:∃L,wb8[row]?=some L:=⟨wb8[row],gG_ hrow⟩;have HL:=hid hL;obtain⟨ans,hans⟩:=qq (opS P a bad row);rw[<-hans];have HA:Hi (ans=opF P a bad L):=by unfold Hi;rw[hans];unfold opS;rw[hL]
 have hLl:L.length<=6:=by rcases(by omega:row=0\/row=1\/row=2\/row=3\/row=4) with rfl | rfl | rfl | rfl | rfl<;>(cases hL;decide)
 clear hL hans;have hrow':(row:Int)<5:=oM;go_enter Tryz.func110,Tryz.ntmps110
 go_wp2_with (first|(go_at_call 138;refine mq (yr2 _) λw1 ⟨htb,hok⟩=>?_;have HK:=hid hok;have HT:=hid htb;have hlt1:=htb.1;have hc1:=(htb.2 row L HL.o).1;clear htb hok)|fail)
 go_loopw [6] (λx wr=>∃(k:Nat),k<=L.length/\x=nI (k:Nat)/\Hi (ans=opF P a bad (L.drop k)/\Ok w wr/\TB wr w.heap.size vS)) (λx _=>((L.length:Int)-intOf x).toNat)
 case atStart=>exact⟨0,zL_ _,rfl,HA.o,HK.o,HT.o⟩
 obtain⟨k,hk,rfl,HJ⟩:=hrel;clear hlt1 hc1;by_cases hkl:k<L.length
 ·have hkl':(k:Int)<(L.length:Int):=za5 hkl
  have hkw:IntKind.i64.wrap ((k:Int)+1)=((k+1:Nat):Int):=zb3 oM;obtain⟨p,hp⟩:∃p,L[k]?=some p:=⟨L[k],gG_ hkl⟩;have HP:=hid hp;have hlt:w.heap.size+row<wr.heap.size:=by have:=HJ.o.2.2.1;omega
  have c0:wr.cell? ⟨w.heap.size+row,k,none⟩=some (.string p.1):=(HJ.o.2.2.2 row L HL.o).2 k p hp;have HD:=yr3 (P:=P) (a:=a) (bad:=bad) hp;clear hp
  cases hi:isS P a bad p.1.toList with
  | true =>
   have HI:=hid hi;have HE:Hi (ans=p.2):=by unfold Hi;rw[HJ.o.1,HD,hi];rfl
   clear hi HD
   go_wp2_with (first
    |(go_at_call 39;refine mq (zb1 P rb _ a bad p.1 (H.o.ok HJ.o.2.1)) λw1 hok=>?_;rw[HI.o];have HK1:=hid hok;clear hok)
    |(go_at_call 139;refine mq (yA6 _) λw2 ⟨htb,hok⟩=>?_;have HK2:=hid hok;have hlt2:=htb.1;have hc2:=(htb.2 row L HL.o).1;have hd2:w2.cell? ⟨w1.heap.size+row,k,none⟩=some (nI p.2):=(htb.2 row L HL.o).2 k p HP.o;have hlt3:w1.heap.size+row<w2.heap.size:=oM;clear htb hok)
    | fail)
   go_ret;exact⟨by rw[HE.o];rfl,(HJ.o.2.1.step HK1.o).step HK2.o⟩
  | false =>
   have HI:=hid hi;have HE:Hi (ans=opF P a bad (L.drop (k+1))):=by unfold Hi;rw[HJ.o.1,HD,hi];rfl
   clear hi HD
   go_wp2_with (first
    |(go_at_call 39;refine mq (zb1 P rb _ a bad p.1 (H.o.ok HJ.o.2.1)) λw1 hok=>?_;rw[HI.o];have HK1:=hid hok;clear hok)
    | fail)
   go_roundw
   case rel=>exact⟨k+1,hkl,rfl,HE.o,HJ.o.2.1.step HK1.o,HJ.o.2.2.ok HK1.o⟩
   case measure=>exact we3 hkl
 have hkl':¬(k:Int)<(L.length:Int):=zb2 hkl;have HE:Hi (ans=0):=by unfold Hi;rw[HJ.o.1,List.drop_eq_nil_of_le (by omega)];rfl
 go_wp2_with fail;go_ret;exact⟨by rw[HE.o];rfl,HJ.o.2.1⟩
end
section
open Go.RowKit
def ndS(n:Nd)(ls:List (List Nd)):List Nd:={ n with depth:=1 }::(ls.map λl=>l.map DE).flatten
def CI(P:RP)(a:Nat)(bad:Int):Bool:=decide (bad<0)&&match P.ts[a]? with | none=>false | some x=>x.1==1
def nuS(P:RP)(a:Nat):Int:=match P.ts[a]? with | some x=>x.2.2.1 | none=>0
def naT(P:RP)(a:Nat)(bad:Int):ByteArray:=if CK P a bad then ⟨(txS P a).toArray⟩ else ⟨#[]⟩
def naA(P:RP)(a:Nat)(bad:Int):Nat:=if CK P a bad then a+1 else a
def naB(P:RP)(a:Nat)(bad:Int):Int:=if CK P a bad then bad else AI P a bad
def tkA(P:RP)(a:Nat)(bad:Int)(t:List UInt8):Nat:=if isS P a bad t then a+1 else a
def tkB(P:RP)(a:Nat)(bad:Int)(t:List UInt8):Int:=if isS P a bad t then bad else AI P a bad
def loF(P:RP)(g:Nat->Int->List Nd×Nat×Int)(row:Nat):Nat->List Nd->Nat->Int->List Nd×Nat×Int
 | 0,l,a,bad=>(l,a,bad)
 | k+1,l,a,bad =>
  if opS P a bad row=0 then (l,a,bad)
  else if row=2 then (ndS ⟨0,15,⟨#[]⟩,0,opS P a bad row,(plS P a:Nat)⟩ [l,(g (a+1) bad).1],(g (a+1) bad).2.1,(g (a+1) bad).2.2)
  else loF P g row k (ndS ⟨0,15,⟨#[]⟩,0,opS P a bad row,(plS P a:Nat)⟩ [l,(g (a+1) bad).1]) (g (a+1) bad).2.1 (g (a+1) bad).2.2
def atF(P:RP)(g:Nat->Int->List Nd×Nat×Int)(a:Nat)(bad:Int):List Nd×Nat×Int :=
 if CI P a bad then (ndS ⟨0,10,⟨#[]⟩,nuS P a,0,(plS P a:Nat)⟩ [],a+1,bad)
 else if isS P a bad [116,114,117,101] then (ndS ⟨0,11,⟨#[]⟩,1,0,(plS P a:Nat)⟩ [],a+1,bad)
 else if isS P a bad [102,97,108,115,101] then (ndS ⟨0,11,⟨#[]⟩,0,0,(plS P a:Nat)⟩ [],a+1,bad)
 else if isS P a bad [40] then ((g (a+1) bad).1,tkA P (g (a+1) bad).2.1 (g (a+1) bad).2.2 [41],tkB P (g (a+1) bad).2.1 (g (a+1) bad).2.2 [41])
 else if CK P a bad then
  if isS P (a+1) bad [91] then (ndS ⟨0,13,naT P a bad,0,0,(plS P a:Nat)⟩ [(g (a+2) bad).1],tkA P (g (a+2) bad).2.1 (g (a+2) bad).2.2 [93],tkB P (g (a+2) bad).2.1 (g (a+2) bad).2.2 [93])
  else (ndS ⟨0,12,naT P a bad,0,0,(plS P a:Nat)⟩ [],a+1,bad)
 else ([],a,AI P a bad)
def exF(P:RP):Nat->Nat->Nat->Int->List Nd×Nat×Int
 | 0,_,a,bad=>([],a,bad)
 | f+1,md,a,bad =>
  if md<5 then loF P (exF P f (md+1)) md f (exF P f (md+1) a bad).1 (exF P f (md+1) a bad).2.1 (exF P f (md+1) a bad).2.2
  else if md=5 then exF P f 6 a bad
  else if md=6 then
   if isS P a bad [45] then (ndS ⟨0,14,⟨#[]⟩,0,1,(plS P a:Nat)⟩ [(exF P f 6 (a+1) bad).1],(exF P f 6 (a+1) bad).2.1,(exF P f 6 (a+1) bad).2.2)
   else if isS P a bad [33] then (ndS ⟨0,14,⟨#[]⟩,0,2,(plS P a:Nat)⟩ [(exF P f 6 (a+1) bad).1],(exF P f 6 (a+1) bad).2.1,(exF P f 6 (a+1) bad).2.2)
   else exF P f 7 a bad
  else atF P (exF P f 0) a bad
def ExS(P:RP)(md a:Nat)(bad:Int)(ns:List Nd)(a':Nat)(bad':Int):Prop:=∀f,(P.ts.length-a)*10+(9-md)<=f->exF P f md a bad=(ns,a',bad')
def LoS(P:RP)(row a:Nat)(bad:Int)(l:List Nd)(a1:Nat)(bad1:Int):Prop:=∀f,(P.ts.length-a)*10+(8-row)<=f->∃k,P.ts.length-a1<=k/\exF P (f+1) row a bad=loF P (exF P f (row+1)) row k l a1 bad1
theorem fuel{n f:Nat}(h:n+1<=f):∃g,f=g+1/\n<=g:=⟨f-1,by omega,by omega⟩
theorem ExS.five{bad:Int}{ns:List Nd}(h:ExS P 6 a bad ns a' bad'):ExS P 5 a bad ns a' bad':=by intro f hf;obtain⟨g,rfl,hg⟩:=fuel hf;rw[exF,if_neg (by omega),if_pos rfl];exact h g oM
theorem LoS.begin{bad:Int}{ns:List Nd}(hr:row<5)(h:ExS P (row+1) a bad ns a' bad')(hle:a<=a'):LoS P row a bad ns a' bad':=by intro f hf;refine⟨f,by omega,?_⟩;rw[exF,if_pos hr,h f (by omega)]
theorem LoS.fin{bad:Int}{ns:List Nd}(hr:row<5)(h:LoS P row a bad ns a' bad')(h0:opS P a' bad' row=0):ExS P row a bad ns a' bad':=by
 intro f hf;obtain⟨g,rfl,hg⟩:=fuel (n:=(P.ts.length-a)*10+(8-row)) (f:=f) oM;obtain⟨k,hk,e⟩:=h g hg;rw[e]
 cases k with
 | zero=>rfl
 | succ k=>rw[loF,if_pos h0]
theorem LoS.next{bad:Int}{l ms:List Nd}{a1:Nat}{bad1:Int}(hr:row<5)(h2:row≠2)(h:LoS P row a bad l a1 bad1)(hle:a<=a1)(h0:opS P a1 bad1 row≠0)(hl:a1<P.ts.length)(he:ExS P (row+1) (a1+1) bad1 ms a2 bad2)(hle2:a1+1<=a2):LoS P row a bad (ndS ⟨0,15,⟨#[]⟩,0,opS P a1 bad1 row,(plS P a1:Nat)⟩ [l,ms]) a2 bad2:=by intro f hf;obtain⟨k,hk,e⟩:=h f hf;obtain⟨k,rfl,_⟩:=fuel (n:=0) (f:=k) oM;refine⟨k,by omega,?_⟩;rw[e,loF,if_neg h0,if_neg h2,he f (by omega)]
theorem LoS.two{bad:Int}{l ms:List Nd}{a1:Nat}{bad1:Int}(h:LoS P 2 a bad l a1 bad1)(hle:a<=a1)(h0:opS P a1 bad1 2≠0)(hl:a1<P.ts.length)(he:ExS P 3 (a1+1) bad1 ms a2 bad2):ExS P 2 a bad (ndS ⟨0,15,⟨#[]⟩,0,opS P a1 bad1 2,(plS P a1:Nat)⟩ [l,ms]) a2 bad2:=by intro f hf;obtain⟨g,rfl,hg⟩:=fuel (n:=(P.ts.length-a)*10+(8-2)) (f:=f) oM;obtain⟨k,hk,e⟩:=h g hg;obtain⟨k,rfl,_⟩:=fuel (n:=0) (f:=k) oM;rw[e,loF,if_neg h0,if_pos rfl,he g (by omega)]
theorem ExS.neg{bad:Int}{ns:List Nd}(hi:isS P a bad [45]=true)(ha:a<P.ts.length)(h:ExS P 6 (a+1) bad ns a' bad'):ExS P 6 a bad (ndS ⟨0,14,⟨#[]⟩,0,1,(plS P a:Nat)⟩ [ns]) a' bad':=by intro f hf;obtain⟨g,rfl,hg⟩:=fuel (n:=(P.ts.length-a)*10+2) (f:=f) oM;rw[exF,if_neg (by omega),if_neg (by omega),if_pos rfl,if_pos hi,h g (by omega)]
theorem ExS.exc{bad:Int}{ns:List Nd}(hj:isS P a bad [45]=false)(hi:isS P a bad [33]=true)(ha:a<P.ts.length)(h:ExS P 6 (a+1) bad ns a' bad'):ExS P 6 a bad (ndS ⟨0,14,⟨#[]⟩,0,2,(plS P a:Nat)⟩ [ns]) a' bad':=by intro f hf;obtain⟨g,rfl,hg⟩:=fuel (n:=(P.ts.length-a)*10+2) (f:=f) oM;rw[exF,if_neg (by omega),if_neg (by omega),if_pos rfl,hj,if_neg (by simp),if_pos hi,h g (by omega)]
theorem ExS.atom{bad:Int}{ns:List Nd}(hj:isS P a bad [45]=false)(hi:isS P a bad [33]=false)(h:ExS P 7 a bad ns a' bad'):ExS P 6 a bad ns a' bad':=by intro f hf;obtain⟨g,rfl,hg⟩:=fuel (n:=(P.ts.length-a)*10+2) (f:=f) oM;rw[exF,if_neg (by omega),if_neg (by omega),if_pos rfl,hj,hi,if_neg (by simp),if_neg (by simp)];exact h g oM
theorem ExS.at{bad:Int}{r:List Nd×Nat×Int}(h:∀g,(P.ts.length-a)*10+1<=g->atF P (exF P g 0) a bad=r):ExS P 7 a bad r.1 r.2.1 r.2.2:=by intro f hf;obtain⟨g,rfl,hg⟩:=fuel (n:=(P.ts.length-a)*10+1) (f:=f) oM;rw[exF,if_neg (by omega),if_neg (by omega),if_neg (by omega)];exact h g hg
theorem ExS.num{bad:Int}{x:Tk}(hb:bad<0)(hx:P.ts[a]?=some x)(hk:x.1=1):ExS P 7 a bad (ndS ⟨0,10,⟨#[]⟩,x.2.2.1,0,(plS P a:Nat)⟩ []) (a+1) bad:=by
 have h1:CI P a bad=true:=by unfold CI;rw[hx,decide_eq_true hb];simp[hk]
 have h2:nuS P a=x.2.2.1:=by unfold nuS;rw[hx]
 exact ExS.at (r:=(_,_,_)) λg _=>by rw[atF,if_pos h1,h2];rfl
theorem zo1{bad:Int}{x:Tk}(hx:P.ts[a]?=some x)(hk:¬x.1=1):CI P a bad=false:=by unfold CI;rw[hx];simp[hk]
theorem ExS.tru{bad:Int}(h1:CI P a bad=false)(h2:isS P a bad [116,114,117,101]=true):ExS P 7 a bad (ndS ⟨0,11,⟨#[]⟩,1,0,(plS P a:Nat)⟩ []) (a+1) bad :=
 ExS.at (r:=(_,_,_)) λg _=>by rw[atF,h1,h2];rfl
theorem ExS.fls{bad:Int}(h1:CI P a bad=false)(h2:isS P a bad [116,114,117,101]=false)(h3:isS P a bad [102,97,108,115,101]=true):ExS P 7 a bad (ndS ⟨0,11,⟨#[]⟩,0,0,(plS P a:Nat)⟩ []) (a+1) bad :=
 ExS.at (r:=(_,_,_)) λg _=>by rw[atF,h1,h2,h3];rfl
theorem ExS.paren{bad:Int}{ms:List Nd}(ht:t=[41])(ha:a<P.ts.length)(h1:CI P a bad=false)(h2:isS P a bad [116,114,117,101]=false)(h3:isS P a bad [102,97,108,115,101]=false)(h4:isS P a bad [40]=true)(h:ExS P 0 (a+1) bad ms a2 bad2):ExS P 7 a bad ms (if isS P a2 bad2 t then a2+1 else a2) (if isS P a2 bad2 t then bad2 else AI P a2 bad2) :=
 ExS.at (r:=(_,_,_)) λg hg=>by subst ht;rw[atF,h1,h2,h3,h4,h g (by omega)];rfl
theorem ExS.nil{bad:Int}(h1:CI P a bad=false)(h2:isS P a bad [116,114,117,101]=false)(h3:isS P a bad [102,97,108,115,101]=false)(h4:isS P a bad [40]=false)(h5:CK P a bad=false):ExS P 7 a bad [] a (AI P a bad) :=
 ExS.at (r:=(_,_,_)) λg hg=>by rw[atF,h1,h2,h3,h4,h5];rfl
theorem ExS.read{bad:Int}(h1:CI P a bad=false)(h2:isS P a bad [116,114,117,101]=false)(h3:isS P a bad [102,97,108,115,101]=false)(h4:isS P a bad [40]=false)(h5:CK P a bad=true)(h6:isS P (a+1) bad [91]=false)(hs:s=naT P a bad):ExS P 7 a bad (ndS ⟨0,12,s,0,0,(plS P a:Nat)⟩ []) (a+1) bad :=
 ExS.at (r:=(_,_,_)) λg hg=>by rw[atF,h1,h2,h3,h4,h5,h6,hs];rfl
theorem ExS.load{bad:Int}{ms:List Nd}(ht:t=[93])(ha:a<P.ts.length)(h1:CI P a bad=false)(h2:isS P a bad [116,114,117,101]=false)(h3:isS P a bad [102,97,108,115,101]=false)(h4:isS P a bad [40]=false)(h5:CK P a bad=true)(h6:isS P (a+1) bad [91]=true)(hs:s=naT P a bad)(h:ExS P 0 (a+2) bad ms a2 bad2):ExS P 7 a bad (ndS ⟨0,13,s,0,0,(plS P a:Nat)⟩ [ms]) (if isS P a2 bad2 t then a2+1 else a2) (if isS P a2 bad2 t then bad2 else AI P a2 bad2) :=
 ExS.at (r:=(_,_,_)) λg hg=>by subst ht;rw[atF,h1,h2,h3,h4,h5,h6,hs,h g (by omega)];rfl
theorem zq8{bad:Int}(h:s.toList=(if CK P a bad then txS P a else [])):s=naT P a bad:=by
 have e:s=⟨s.toList.toArray⟩:=by rw[ByteArray.toList_eq]
 rw[e,h];unfold naT
 cases CK P a bad<;>rfl
def exA(P:RP)(a:Nat)(bad:Int):List Nd×Nat×Int:=exF P (P.ts.length*10+10) 0 a bad
theorem ExS.all{bad:Int}{ns:List Nd}(h:ExS P 0 a bad ns a' bad'):exA P a bad=(ns,a',bad'):=h _ oM
def blF(P:RP)(g:Nat->Int->List Nd×Nat×Int):Nat->List Nd->Nat->Int->List Nd×Nat×Int
 | 0,l,a,bad=>(l,a,bad)
 | k+1,l,a,bad=>if decide (bad<0) && !isS P a bad [125] then blF P g k (l++(g a bad).1) (g a bad).2.1 (g a bad).2.2 else (l,a,bad)
def blE(P:RP)(a:Nat)(r:List Nd×Nat×Int):List Nd×Nat×Int:=(ndS ⟨0,9,⟨#[]⟩,0,0,(plS P a:Nat)⟩ [r.1],tkA P r.2.1 r.2.2 [125],tkB P r.2.1 r.2.2 [125])
def nsF(P:RP)(a:Nat)(s:ByteArray)(a1:Nat)(b1:Int):List Nd×Nat×Int :=
 if isS P a1 b1 [91] then
  let i:=exA P (a1+1) b1
  let a2:=tkA P i.2.1 i.2.2 [93]
  let b2:=tkB P i.2.1 i.2.2 [93]
  let v:=exA P (tkA P a2 b2 [58,61]) (tkB P a2 b2 [58,61])
  (ndS ⟨0,3,s,0,0,(plS P a:Nat)⟩ [i.1,v.1],tkA P v.2.1 v.2.2 [59],tkB P v.2.1 v.2.2 [59])
 else
  let v:=exA P (tkA P a1 b1 [58,61]) (tkB P a1 b1 [58,61])
  (ndS ⟨0,2,s,0,0,(plS P a:Nat)⟩ [v.1],tkA P v.2.1 v.2.2 [59],tkB P v.2.1 v.2.2 [59])
def smF(P:RP)(g:Nat->Int->List Nd×Nat×Int)(a:Nat)(bad:Int):List Nd×Nat×Int :=
 if isS P a bad [105,110,112,117,116] then (ndS ⟨0,4,naT P (a+1) bad,0,0,(plS P a:Nat)⟩ [],tkA P (naA P (a+1) bad) (naB P (a+1) bad) [59],tkB P (naA P (a+1) bad) (naB P (a+1) bad) [59])
 else if isS P a bad [97,115,115,101,114,116] then
  (ndS ⟨0,5,⟨#[]⟩,0,0,(plS P a:Nat)⟩ [(exA P (a+1) bad).1],tkA P (exA P (a+1) bad).2.1 (exA P (a+1) bad).2.2 [59],tkB P (exA P (a+1) bad).2.1 (exA P (a+1) bad).2.2 [59])
 else if isS P a bad [115,107,105,112] then (ndS ⟨0,6,⟨#[]⟩,0,0,(plS P a:Nat)⟩ [],tkA P (a+1) bad [59],tkB P (a+1) bad [59])
 else if isS P a bad [119,104,105,108,101] then
  let l:=exA P (a+1) bad
  let b:=g l.2.1 l.2.2
  (ndS ⟨0,8,⟨#[]⟩,0,0,(plS P a:Nat)⟩ [l.1,b.1],b.2.1,b.2.2)
 else if isS P a bad [105,102] then
  let l:=exA P (a+1) bad
  let b:=g l.2.1 l.2.2
  if isS P b.2.1 b.2.2 [101,108,115,101] then
   let c:=g (b.2.1+1) b.2.2
   (ndS ⟨0,7,⟨#[]⟩,0,0,(plS P a:Nat)⟩ [l.1,b.1,c.1],c.2.1,c.2.2)
  else (ndS ⟨0,7,⟨#[]⟩,0,0,(plS P a:Nat)⟩ [l.1,b.1],b.2.1,b.2.2)
 else nsF P a (naT P a bad) (naA P a bad) (naB P a bad)
def stF(P:RP):Nat->Nat->Nat->Int->List Nd×Nat×Int
 | 0,_,a,bad=>([],a,bad)
 | f+1,md,a,bad=>if md=0 then smF P (stF P f 1) a bad else blE P a (blF P (stF P f 0) f [] (tkA P a bad [123]) (tkB P a bad [123]))
def StS(P:RP)(a:Nat)(bad:Int)(ns:List Nd)(a':Nat)(bad':Int):Prop:=∀f,(P.ts.length-a)*10+2<=f->stF P f 0 a bad=(ns,a',bad')
def BkS(P:RP)(a:Nat)(bad:Int)(ns:List Nd)(a':Nat)(bad':Int):Prop:=∀f,(P.ts.length-a)*10+5<=f->stF P f 1 a bad=(ns,a',bad')
def BlS(P:RP)(a:Nat)(bad:Int)(l:List Nd)(a1:Nat)(bad1:Int):Prop:=∀f,(P.ts.length-a)*10+4<=f->∃k,(P.ts.length-a1)*2+(if bad1<0 then 1 else 0)<=k/\stF P (f+1) 1 a bad=blE P a (blF P (stF P f 0) k l a1 bad1)
theorem BlS.begin{bad:Int}(hi:isS P a bad [123]=true)(ha:a<P.ts.length):BlS P a bad [] (a+1) bad:=by
 intro f hf;refine⟨f,by split<;>omega,?_⟩;have h1:tkA P a bad [123]=a+1:=by unfold tkA;rw[hi];rfl
 have h2:tkB P a bad [123]=bad:=by unfold tkB;rw[hi];rfl
 rw[stF,if_neg (by omega),h1,h2]
theorem BlS.next{ac:Nat}{bad badc:Int}{l ms:List Nd}(h:BlS P a bad l ac badc)(hle:a<=ac)(hb:badc<0)(hi:isS P ac badc [125]=false)(hs:StS P ac badc ms a2 bad2)(hg:ac<a2\/0<=bad2)(hle2:ac<=a2)(hle3:a2<=P.ts.length):BlS P a bad (l++ms) a2 bad2:=by
 intro f hf;obtain⟨k,hk,e⟩:=h f hf;rw[if_pos hb]at hk;obtain⟨k,rfl,_⟩:=fuel (n:=0) (f:=k) oM;refine⟨k,?_,?_⟩
 ·split
  ·rcases hg with hg | hg<;>omega
  omega
 rw[e,blF,decide_eq_true hb,hi,if_pos (by rfl),hs f (by omega)]
theorem BlS.fin{ac:Nat}{bad badc:Int}{l:List Nd}(ht:t=[125])(h:BlS P a bad l ac badc)(hb:¬badc<0\/isS P ac badc [125]=true):BkS P a bad (ndS ⟨0,9,⟨#[]⟩,0,0,(plS P a:Nat)⟩ [l]) (if isS P ac badc t then ac+1 else ac) (if isS P ac badc t then badc else AI P ac badc):=by
 intro f hf;obtain⟨g,rfl,hg⟩:=fuel (n:=(P.ts.length-a)*10+4) (f:=f) oM;obtain⟨k,hk,e⟩:=h g hg;subst ht;rw[e]
 have hc:(decide (badc<0) && !isS P ac badc [125])=false:=by
  rcases hb with hb | hb
  ·rw[decide_eq_false hb];rfl
  rw[hb];simp
 cases k with
 | zero=>rfl
 | succ k=>rw[blF,hc];rfl
theorem BkS.bad{bad b0:Int}(hi:isS P a bad [123]=false)(h0:b0=AI P a bad)(hp:0<=b0):BkS P a bad (ndS ⟨0,9,⟨#[]⟩,0,0,(plS P a:Nat)⟩ [[]]) a b0:=by
 intro f hf;obtain⟨g,rfl,hg⟩:=fuel (n:=(P.ts.length-a)*10+4) (f:=f) oM;have h1:tkA P a bad [123]=a:=by unfold tkA;rw[hi];rfl
 have h2:tkB P a bad [123]=b0:=by unfold tkB;rw[hi,h0];rfl
 have h3:isS P a b0 [125]=false:=by unfold isS;rw[decide_eq_false (by omega)];rfl
 have h4:AI P a b0=b0:=by unfold AI;rw[if_neg (by omega)]
 rw[stF,if_neg (by omega),h1,h2];obtain⟨g,rfl,_⟩:=fuel (n:=0) (f:=g) oM;rw[blF,decide_eq_false (by omega)];unfold blE tkA tkB;simp only[h3,h4,Bool.false_and,Bool.false_eq_true,if_false]
theorem StS.of{bad:Int}{r:List Nd×Nat×Int}(h:∀g,(P.ts.length-a)*10+1<=g->smF P (stF P g 1) a bad=r):StS P a bad r.1 r.2.1 r.2.2:=by intro f hf;obtain⟨g,rfl,hg⟩:=fuel (n:=(P.ts.length-a)*10+1) (f:=f) oM;rw[stF,if_pos rfl];exact h g hg
theorem StS.input{bad:Int}(ht:t=[59])(h2:isS P a bad [105,110,112,117,116]=true)(hs:s=naT P (a+1) bad):StS P a bad (ndS ⟨0,4,s,0,0,(plS P a:Nat)⟩ []) (tkA P (naA P (a+1) bad) (naB P (a+1) bad) t) (tkB P (naA P (a+1) bad) (naB P (a+1) bad) t) :=
 StS.of (r:=(_,_,_)) λg _=>by rw[smF,h2,hs,ht];rfl
theorem StS.assert{bad:Int}{ms:List Nd}(ht:t=[59])(h2:isS P a bad [105,110,112,117,116]=false)(h3:isS P a bad [97,115,115,101,114,116]=true)(he:ExS P 0 (a+1) bad ms a6 b6):StS P a bad (ndS ⟨0,5,⟨#[]⟩,0,0,(plS P a:Nat)⟩ [ms]) (tkA P a6 b6 t) (tkB P a6 b6 t) :=
 StS.of (r:=(_,_,_)) λg _=>by rw[smF,h2,h3,he.all,ht];rfl
theorem StS.skip{bad:Int}(ht:t=[59])(h2:isS P a bad [105,110,112,117,116]=false)(h3:isS P a bad [97,115,115,101,114,116]=false)(h4:isS P a bad [115,107,105,112]=true):StS P a bad (ndS ⟨0,6,⟨#[]⟩,0,0,(plS P a:Nat)⟩ []) (tkA P (a+1) bad t) (tkB P (a+1) bad t) :=
 StS.of (r:=(_,_,_)) λg _=>by rw[smF,h2,h3,h4,ht];rfl
theorem StS.while{bad:Int}{ms ks:List Nd}(ha:a<P.ts.length)(h2:isS P a bad [105,110,112,117,116]=false)(h3:isS P a bad [97,115,115,101,114,116]=false)(h4:isS P a bad [115,107,105,112]=false)(h5:isS P a bad [119,104,105,108,101]=true)(he:ExS P 0 (a+1) bad ms a6 b6)(hle:a+1<=a6)(hb:BkS P a6 b6 ks a7 b7):StS P a bad (ndS ⟨0,8,⟨#[]⟩,0,0,(plS P a:Nat)⟩ [ms,ks]) a7 b7 :=
 StS.of (r:=(_,_,_)) λg hg=>by rw[smF,h2,h3,h4,h5,he.all];simp only[Bool.false_eq_true,if_false,if_true];rw[hb g (by omega)];rfl
theorem StS.ifs{bad:Int}{ms ks:List Nd}(ha:a<P.ts.length)(h2:isS P a bad [105,110,112,117,116]=false)(h3:isS P a bad [97,115,115,101,114,116]=false)(h4:isS P a bad [115,107,105,112]=false)(h5:isS P a bad [119,104,105,108,101]=false)(h6:isS P a bad [105,102]=true)(he:ExS P 0 (a+1) bad ms a6 b6)(hle:a+1<=a6)(hb:BkS P a6 b6 ks a7 b7)(h7:isS P a7 b7 [101,108,115,101]=false):StS P a bad (ndS ⟨0,7,⟨#[]⟩,0,0,(plS P a:Nat)⟩ [ms,ks]) a7 b7 :=
 StS.of (r:=(_,_,_)) λg hg=>by rw[smF,h2,h3,h4,h5,h6,he.all];simp only[Bool.false_eq_true,if_false,if_true];rw[hb g (by omega)];simp only[h7,Bool.false_eq_true,if_false];rfl
theorem StS.ifelse{bad:Int}{ms ks js:List Nd}{a8:Nat}{b8:Int}(ha:a<P.ts.length)(h2:isS P a bad [105,110,112,117,116]=false)(h3:isS P a bad [97,115,115,101,114,116]=false)(h4:isS P a bad [115,107,105,112]=false)(h5:isS P a bad [119,104,105,108,101]=false)(h6:isS P a bad [105,102]=true)(he:ExS P 0 (a+1) bad ms a6 b6)(hle:a+1<=a6)(hb:BkS P a6 b6 ks a7 b7)(hle7:a6<=a7)(h7:isS P a7 b7 [101,108,115,101]=true)(hc:BkS P (a7+1) b7 js a8 b8):StS P a bad (ndS ⟨0,7,⟨#[]⟩,0,0,(plS P a:Nat)⟩ [ms,ks,js]) a8 b8 :=
 StS.of (r:=(_,_,_)) λg hg=>by rw[smF,h2,h3,h4,h5,h6,he.all];simp only[Bool.false_eq_true,if_false,if_true];rw[hb g (by omega)];simp only[h7,if_true];rw[hc g (by omega)];rfl
def wo2(P:RP)(a:Nat)(bad:Int):Prop:=isS P a bad [105,110,112,117,116]=false/\isS P a bad [97,115,115,101,114,116]=false/\isS P a bad [115,107,105,112]=false/\isS P a bad [119,104,105,108,101]=false/\isS P a bad [105,102]=false
theorem StS.named{bad:Int}{r:List Nd×Nat×Int}(h:wo2 P a bad)(hr:nsF P a (naT P a bad) (naA P a bad) (naB P a bad)=r):StS P a bad r.1 r.2.1 r.2.2 :=
 StS.of λg hg=>by rw[smF,h.1,h.2.1,h.2.2.1,h.2.2.2.1,h.2.2.2.2];exact hr
theorem StS.input2{bad:Int}(ht:t=[59])(h2:isS P a bad [105,110,112,117,116]=true)(hs:s=naT P (a+1) bad)(h6:a6=naA P (a+1) bad/\b6=naB P (a+1) bad):StS P a bad (ndS ⟨0,4,s,0,0,(plS P a:Nat)⟩ []) (tkA P a6 b6 t) (tkB P a6 b6 t):=by rw[h6.1,h6.2];exact StS.input ht h2 hs
theorem StS.assign{a3 a4 a5:Nat}{bad b3 b4 b5:Int}{ms:List Nd}(h:wo2 P a bad)(hn:CK P a bad=true)(h8:isS P (a+1) bad [91]=false)(hs:s=naT P a bad)(h3:a3=tkA P (a+1) bad [58,61]/\b3=tkB P (a+1) bad [58,61])(he:exA P a3 b3=(ms,a4,b4))(h5:a5=tkA P a4 b4 [59]/\b5=tkB P a4 b4 [59]):StS P a bad (ndS ⟨0,2,s,0,0,(plS P a:Nat)⟩ [ms]) a5 b5:=by
 refine StS.named (r:=(_,_,_)) h ?_;have e1:naA P a bad=a+1:=by unfold naA;rw[hn];rfl
 have e2:naB P a bad=bad:=by unfold naB;rw[hn];rfl
 rw[nsF,e1,e2,h8,<-h3.1,<-h3.2,he,<-hs,h5.1,h5.2];rfl
theorem StS.store{a4 a5 a8:Nat}{bad b4 b5 b8:Int}{ms ks:List Nd}(h:wo2 P a bad)(hn:CK P a bad=true)(h8:isS P (a+1) bad [91]=true)(hs:s=naT P a bad)(he:exA P (a+2) bad=(ms,a4,b4))(h5:a5=tkA P a4 b4 [93]/\b5=tkB P a4 b4 [93])(h6:a6=tkA P a5 b5 [58,61]/\b6=tkB P a5 b5 [58,61])(he2:exA P a6 b6=(ks,a7,b7))(h9:a8=tkA P a7 b7 [59]/\b8=tkB P a7 b7 [59]):StS P a bad (ndS ⟨0,3,s,0,0,(plS P a:Nat)⟩ [ms,ks]) a8 b8:=by
 refine StS.named (r:=(_,_,_)) h ?_;have e1:naA P a bad=a+1:=by unfold naA;rw[hn];rfl
 have e2:naB P a bad=bad:=by unfold naB;rw[hn];rfl
 rw[nsF,e1,e2,h8,he];simp only[if_true];rw[<-h5.1,<-h5.2,<-h6.1,<-h6.2,he2,<-hs,h9.1,h9.2];rfl
theorem StS.noname{bad b0:Int}(h:wo2 P a bad)(hn:CK P a bad=false)(hs:s=naT P a bad)(hb:b0=AI P a bad)(hp:0<=b0)(he:exA P a b0=([],a,b0)):StS P a bad (ndS ⟨0,2,s,0,0,(plS P a:Nat)⟩ [[]]) a b0:=by
 refine StS.named (r:=(_,_,_)) h ?_;have e1:naA P a bad=a:=by unfold naA;rw[hn];rfl
 have e2:naB P a bad=b0:=by unfold naB;rw[hn,hb];rfl
 have e3:∀t,isS P a b0 t=false:=λt=>by unfold isS;rw[decide_eq_false (by omega)];rfl
 have e4:AI P a b0=b0:=by unfold AI;rw[if_neg (by omega)]
 have e5:∀t,tkA P a b0 t=a:=λt=>by unfold tkA;rw[e3];rfl
 have e6:∀t,tkB P a b0 t=b0:=λt=>by unfold tkB;rw[e3,e4];rfl
 rw[nsF,e1,e2,e3];simp only[Bool.false_eq_true,if_false];rw[e5,e6,he,<-hs];simp only[e5,e6];rfl
end
end Go.Proofs.YtpongdpnbclchaaGreatDoor
