import Derived.Test.YtpongdpnbclchaaGreatDoorKCstk
set_option linter.all false
set_option maxRecDepth 100000
namespace Go.Proofs.YtpongdpnbclchaaGreatDoor
variable{B cap i n:Nat}{S:List AW}{g:Bool}{k:Int}{ns:List Nd}{v:Value}{w:World}
open Go.RowKit
def BJ(k:Nat):Bool:=decide (0<AT k)||k==9
def BW(S:List AW):List AW:=S.set (S.length-1) ((S.getD (S.length-1) (0,0)).1,(S.getD (S.length-1) (0,0)).2+1)
def wh9(k:Nat):Bool:=k==0||k==1
def BR:List Nd->Nat->List AW->Bool->Int×Int
 | [],i,S,_=>if AX S then (33,i) else (0,0)
 | n::ns,i,S,g =>
  if AX (S.drop (n.depth-1).toNat) then (33,i) else
  let S1:=S.take (n.depth-1).toNat
  if n.depth≠S1.length+1\/CF n.kind n.name.toList n.num n.op=false then (33,i) else
  if S1=[] then
   if (wh9 n.kind.toNat&&g)||(!wh9 n.kind.toNat && !wc6 n.kind) then (33,i) else if 24<n.depth then (31,i)
   else BR ns (i+1) (if BJ n.kind.toNat then S1++[(n.kind.toNat,0)] else S1) (g || !wh9 n.kind.toNat)
  else
   if EN (S1.getD (S1.length-1) (0,0)).1 (S1.getD (S1.length-1) (0,0)).2 n.kind=false then (33,i) else if 24<n.depth then (31,i)
   else BR ns (i+1) (if BJ n.kind.toNat then BW S1++[(n.kind.toNat,0)] else BW S1) g
def CG(ns:List Nd):Int×Int:=if 300<ns.length then (32,300) else BR ns 0 [] false
theorem Stk.slice(h:Stk w B v S):∃ao cp,v=.slice ao S.length cp/\S.length<=cp/\cp<=maxLen:=by
 rcases h.2 with ⟨rfl,h0⟩ | ⟨g,cap,cur,rfl,_,_,h1,h2,_⟩
 ·exact⟨none,0,by rw[h0],by omega,by simp[maxLen]⟩
 exact⟨_,cap,rfl,h1,h2⟩
theorem Stk.cells{g:Nat}(h:Stk w B (.slice (sA g 0) n cap) S)(hn:n=S.length)(i:Nat)(hi:i<S.length) :
  w.cell? ⟨g,i*3,none⟩=some (nI ((i:Int)+1))/\w.cell? ⟨g,i*3+1,none⟩=some (nI S[i].1)/\w.cell? ⟨g,i*3+2,none⟩=some (nI S[i].2):=by
 subst hn;obtain⟨a,b,c⟩:=yn4 0 S i hi;refine⟨?_,?_,?_⟩
 ·rw[World.ownsRow.cellAt h _ (by omega),a];simp
 ·rw[World.ownsRow.cellAt h _ (by omega),b]
 rw[World.ownsRow.cellAt h _ (by omega),c]
theorem Stk.warm{g:Nat}(h:Stk w B (.slice (sA g 0) n cap) S)(hn:n=S.length)(j:Nat):w.frozen? (aD g j)=false:=by subst hn;exact World.ownsRow.frozenAt h j
theorem zZ7{m:Nat}(h:m<S.length)(hn:n<=m)(hw:(S[m].2:Int)<AT S[m].1):AX (S.drop n)=true:=by
 unfold AX;rw[List.any_eq_true];refine⟨S[m],?_,dT_ hw⟩;have:S[m]∈S.drop m:=by rw[List.drop_eq_getElem_cons h];exact List.mem_cons_self
 have e:S.drop m=(S.drop n).drop (m-n):=by rw[List.drop_drop];congr 1;omega
 rw[e]at this;exact List.mem_of_mem_drop this
theorem zZ8{m:Nat}(h:m<S.length)(hw:¬(S[m].2:Int)<AT S[m].1)(hd:AX (S.drop (m+1))=false):AX (S.drop m)=false:=by rw[List.drop_eq_getElem_cons h];unfold AX at *;rw[List.any_cons,hd,decide_eq_false hw];rfl
theorem zp5{n:Nd}(h:AX (S.drop (n.depth-1).toNat)=true):BR (n::ns) i S g=(33,(i:Int)):=by rw[BR,if_pos h]
theorem zm9{n:Nd}{S1:List AW}(h:S.take (n.depth-1).toNat=S1/\AX (S.drop (n.depth-1).toNat)=false)(hb:n.depth≠S1.length+1\/CF n.kind n.name.toList n.num n.op=false):BR (n::ns) i S g=(33,(i:Int)):=by rw[BR,if_neg (by rw[h.2];simp),h.1];show(if _ then _ else _)=_;rw[if_pos hb]
theorem zP1{n:Nd}(h:S.take (n.depth-1).toNat=[]/\AX (S.drop (n.depth-1).toNat)=false)(hd:n.depth=1)(hf:CF n.kind n.name.toList n.num n.op=true) :
  BR (n::ns) i S g=if (wh9 n.kind.toNat&&g)||(!wh9 n.kind.toNat && !wc6 n.kind) then (33,(i:Int)) else BR ns (i+1) (if BJ n.kind.toNat then [(n.kind.toNat,0)] else []) (g || !wh9 n.kind.toNat):=by
 rw[BR,if_neg (by rw[h.2];simp),h.1];show(if _ then _ else _)=_;rw[if_neg (by rw[hf,hd];simp),if_pos rfl];rw[if_neg (by omega:¬24<n.depth)];rfl
theorem zZ9{n:Nd}{S1:List AW}(h:S.take (n.depth-1).toNat=S1/\AX (S.drop (n.depth-1).toNat)=false)(h1:S1≠[])(hd:n.depth=S1.length+1)(hf:CF n.kind n.name.toList n.num n.op=true) :
  BR (n::ns) i S g=if EN (S1.getD (S1.length-1) (0,0)).1 (S1.getD (S1.length-1) (0,0)).2 n.kind=false then (33,(i:Int)) else if 24<n.depth then (31,(i:Int)) else BR ns (i+1) (if BJ n.kind.toNat then BW S1++[(n.kind.toNat,0)] else BW S1) g:=by
 rw[BR,if_neg (by rw[h.2];simp),h.1];show(if _ then _ else _)=_;rw[if_neg (by rw[hf,hd];simp),if_neg h1]
theorem zs4{name:List UInt8}{num op:Int}(h:CF k name num op=true):0<=k/\k<=15:=by unfold CF at h;simp only[Bool.and_eq_true,decide_eq_true_eq]at h;exact⟨h.1.1.1,h.1.1.2⟩
theorem Tryz.info159:(Tryz.prog.info? 159).map (λi=>(i.zero,i.size,i.bytes))=some (some (.agg #[nI 0,nI 0,nI 0]),3,24):=by kernel_rfl
theorem Stk.grow(h:Stk w B v S)(o:Obj):(w.alloc o).ownsRow B 159 3 v S.length (CS 0 S):=World.ownsRow.alloc (show w.ownsRow B 159 3 v S.length (CS 0 S) from h) o
theorem Stk.push{d:Int}(h:w.ownsRow B 159 3 v (n+1) (CS 0 S++[nI d,nI k,nI 0]))(hn:n=S.length)(hd:d=S.length+1)(hk:0<=k):Stk w B v (S++[(k.toNat,0)]):=by
 subst hn hd;unfold Stk;rw[zs7,List.length_append]
 have e:CS (0+S.length) [(k.toNat,0)]=[nI ((S.length:Int)+1),nI k,nI 0]:=by simp only[CS,Nat.zero_add,Int.toNat_of_nonneg hk];rfl
 rw[e];exact h
theorem Stk.base(h:Stk w B v S):∀k,v.ownBlock=some k->B<=k:=λk hk=>(World.ownsRow.lt (show w.ownsRow B 159 3 v S.length (CS 0 S) from h) k hk).1
theorem zP2(h0:0<=k)(h:0<AT k\/k=9):BJ k.toNat=true:=by
 unfold BJ;rw[Int.toNat_of_nonneg h0];rcases h with h | h
 ·rw[decide_eq_true h];rfl
 subst h;rfl
theorem ya0(h0:0<=k)(h:¬0<AT k)(h9:¬k=9):BJ k.toNat=false:=by unfold BJ;rw[Int.toNat_of_nonneg h0,decide_eq_false h];simp;omega
theorem zE2(h:2<=k):wh9 k.toNat=false:=by unfold wh9;simp;omega
theorem ym4(h:2<=k)(h8:k<=8):wc6 k=true:=by unfold wc6;rw[decide_eq_true h,decide_eq_true h8];rfl
theorem zP3(k:Int):0<=AT k/\AT k<=2:=by
 unfold AT
 split
 ·omega
 split<;>omega
theorem zs5{k:Nat}(h:S.length=k+1):BW S=S.set k (S[k].1,S[k].2+1):=by unfold BW;have e:S.length-1=k:=oM;have hk:k<S.length:=oM;simp only[e,List.getD_eq_getElem?_getD,List.getElem?_eq_getElem hk,Option.getD_some]
theorem Stk.inc{g k:Nat}(h:Stk w B (.slice (sA g 0) n cap) S)(hn:n=S.length)(hk:S.length=k+1) :
  Stk (w.setCell ⟨g,k*3+2,none⟩ (nI ((S[k].2:Int)+1))) B (.slice (sA g 0) n cap) (BW S):=by
 subst hn;have h1:=(World.ownsRow.stored (show w.ownsRow B 159 3 (.slice (sA g 0) S.length cap) S.length (CS 0 S) from h) (k*3+2) (nI ((S[k].2+1:Nat):Int))).1;rw[yn5 0 S k (by omega),<-zs5 hk]at h1;unfold Stk;have e:(BW S).length=S.length:=by unfold BW;rw[List.length_set]
 rw[e];have e2:((S[k].2+1:Nat):Int)=(S[k].2:Int)+1:=oM;rw[e2]at h1;exact h1
theorem zT7(S:List AW):(BW S).length=S.length:=by unfold BW;rw[List.length_set]
theorem ya1{k:Nat}(hk:S.length=k+1)(h:∀x∈S,x.2<=i):∀x∈BW S,x.2<=i+1:=by
 intro x hx;rw[zs5 hk]at hx;rcases List.mem_or_eq_of_mem_set hx with hx | rfl
 ·have:=h x hx;omega
 have:=h S[k] (List.getElem_mem _);simp;omega
set_option maxHeartbeats 2000000 in
theorem zT8(b o cap:Nat)(ns:List Nd)(w:World)(hok:∀n∈ns,n.Ok)(hN:AV w b o ns)(hlen:ns.length<=cap)(hcap:cap<=maxLen) :
  Calls Tryz.prog 42 #[.slice (sA b o) ns.length cap] w λe w'=>e=.returned (.tuple #[nI (CG ns).1,nI (CG ns).2])/\Below w.heap.size w w':=by
 have hl:ns.length<=maxLen:=oM;unfold maxLen at hl;by_cases h300:300<(ns.length:Int)
 ·have HF:Hi (CG ns=(32,300)):=by unfold Hi CG;rw[if_pos (by omega)]
  clear hok hN;go_enter Tryz.func42,Tryz.ntmps42;go_wp2
  go_ret2
  exact⟨FJ (by rw[HF.o]) (by rw[HF.o]),Below.refl _ _⟩
 have HF:Hi (CG ns=BR ns 0 [] false):=by unfold Hi CG;rw[if_neg (by omega)]
 have h300':(ns.length:Int)<=300:=oM;have hltN:=hN.lt;have HN:Hi _:=hN;have HO:Hi _:=hok;clear hok hN h300;go_enter Tryz.func42,Tryz.ntmps42;go_wp2_with fail;go_loopw [4,5,6] (λv bg t wr=>∃(i:Nat) (S:List AW) (g:Bool),i<=ns.length/\t=nI i/\bg=.bool g/\Hi (BR ns 0 [] false=BR (ns.drop i) i S g)/\Hi (Below w.heap.size w wr)/\Hi (Stk wr w.heap.size v S)/\S.length<=24/\Hi (∀h∈S,h.2<=i)) (λ_ _ t _=>ns.length-(intOf t).toNat)
 case atStart=>exact⟨0,[],false,by omega,rfl,rfl,rfl,Below.refl _ _,World.ownsRow_nil _ _ _ _,by simp,λh hh=>absurd hh (by simp)⟩
 obtain⟨i,S,g,hi,rfl,rfl,hr,HB,HS,hl24,HK⟩:=hrel;obtain⟨W,hW⟩:=qq (wr);subst hW;have hz:=HB.o.size;by_cases hlt:i<ns.length
 ·have HN2:=HN.o.below HB.o
  have c0:=HN2.c0 i hlt;have c1:=HN2.c1 i hlt;have c2:=HN2.c2 i hlt;have c3:=HN2.c3 i hlt;have c4:=HN2.c4 i hlt;have c5:=HN2.c5 i hlt;have HOi:Hi _:=HO.o ns[i] (List.getElem_mem _)
  have HSTEP:Hi (BR ns 0 [] false=BR (ns[i]::ns.drop (i+1)) i S g):=by unfold Hi;rw[hr.o,List.drop_eq_getElem_cons hlt]
  clear hr HN2;generalize ns[i]=nd at *;have hneb:¬b=W.heap.size:=oM;go_wp2_with fail
  have HND0:Hi (wc3 (W.alloc (.cells #[nI nd.depth,nI nd.kind,.string nd.name,nI nd.num,nI nd.op,nI nd.pos] 78)) W.heap.size nd):=by constructor<;>simp[go_sem]
  have HB1:Hi (Below w.heap.size w (W.alloc (.cells #[nI nd.depth,nI nd.kind,.string nd.name,nI nd.num,nI nd.op,nI nd.pos] 78))):=HB.o.alloc hz _;have HS1:Hi (Stk (W.alloc (.cells #[nI nd.depth,nI nd.kind,.string nd.name,nI nd.num,nI nd.op,nI nd.pos] 78)) w.heap.size u4 S):=HS.o.below ((Below.refl _ _).alloc (nR_ _) _);have HOB:Hi (∀q,u4.ownBlock=some q->q<W.heap.size):=λq hq=>(World.ownsRow.lt (show W.ownsRow w.heap.size 159 3 u4 S.length (CS 0 S) from HS.o) q hq).2;clear c0 c1 c2 c3 c4 c5 HS HB;go_loopw [4] (λv' wv=>∃m:Nat,m<=S.length/\(m=S.length\/nd.depth<=(m:Int)+1)/\Hi (Stk wv w.heap.size v' (S.take m))/\Hi (AX (S.drop m)=false)/\Hi (Below w.heap.size w wv)/\Hi (wc3 wv W.heap.size nd)/\W.heap.size<wv.heap.size/\Hi (∀q,v'.ownBlock=some q->q<W.heap.size)) (λv' _=>wg2 v')
  case atStart=>exact⟨S.length,Nat.le_refl _,.inl rfl,by rw[List.take_length];exact HS1,by unfold Hi;rw[List.drop_length];rfl,HB1,HND0,by simp,HOB⟩
  obtain⟨m,hm,hmd,HSm,HW,HBm,HND,hzm,HOBm⟩:=hrel;have hlm:(S.take m).length=m:=by rw[List.length_take];omega
  obtain⟨ao,cp,hv,hcp1,hcp2⟩:=HSm.o.slice;rw[hlm]at hv hcp1;have d0:=HND.o.c0;by_cases hgo:0<m/\nd.depth<=(m:Int)
  ·obtain⟨hm0,hdm⟩:=hgo
   obtain⟨k,rfl⟩:∃k,m=k+1:=⟨m-1,by omega⟩;obtain⟨g',cap',hv',hg1,hg2⟩:=HSm.o.form oM;rw[hlm]at hv';subst hv';obtain⟨e0,e1,e2⟩:=HSm.o.cells (by rw[hlm]) k (by omega);have e3:(S.take (k+1))[k]'oM=S[k]:=List.getElem_take;rw[e3]at e1 e2;simp only[Value.slice.injEq]at hv;obtain⟨rfl,_,rfl⟩:=hv;have hkl:k<S.length:=oM;have hk400:S[k].2<=400:=by have:=HK.o _ (List.getElem_mem hkl);omega
   have HPOP:=hid (HSm.o.pop hm);have ng:¬g'=wr.heap.size:=oM;have ng2:¬W.heap.size=wr.heap.size:=oM;have q0:(0:Int)<(k:Int)+1:=oM;have q1:(0:Int)<((k+1:Nat):Int):=oM;have q2:nd.depth<=(k:Int)+1:=oM;have q3:k<k+1:=oM;have q4:(k:Int)<(k:Int)+1:=oM;have q5:(k:Int)<=24:=oM;have q7:(0:Int)<=k:=oM;clear e3 hm0;go_wp2_with fail;go_quiet (fail);have hdr:Below wr.heap.size wr (wr.drewN nq):=below_drewN (Below.refl _ _) nq;have HPOP2:=hid (HPOP.o.below hdr);have HBm2:=hid (below_drewN HBm.o nq);have hnd2:∀o,(wr.drewN nq).cell? (aD W.heap.size o)=wr.cell? (aD W.heap.size o):=λo=>hdr.cell (p:=⟨W.heap.size,o,none⟩) hzm;have HND2:Hi _:=HND.o.of hnd2;have e0':(wr.drewN nq).cell? ⟨g',k*3,none⟩=_:=(hdr.cell (p:=⟨g',k*3,none⟩) hg2).trans e0;have e1':(wr.drewN nq).cell? ⟨g',k*3+1,none⟩=_:=(hdr.cell (p:=⟨g',k*3+1,none⟩) hg2).trans e1;have e2':(wr.drewN nq).cell? ⟨g',k*3+2,none⟩=_:=(hdr.cell (p:=⟨g',k*3+2,none⟩) hg2).trans e2;have hz2:wr.heap.size<=(wr.drewN nq).heap.size:=hdr.size;have d0':=HND2.o.c0;generalize wr.drewN nq=W2 at *;clear hdr hnd2 e0 e1 e2 d0 HPOP HBm HND;have hz3:W.heap.size<W2.heap.size:=oM;have hg3:g'<W2.heap.size:=oM;clear ng ng2;have ng:¬g'=W2.heap.size:=oM;have ng2:¬W.heap.size=W2.heap.size:=oM;by_cases hwt:(S[k].2:Int)<AT S[k].1
   ·have HE:Hi (BR ns 0 [] false=(33,(i:Int))):=by
     unfold Hi;rw[HSTEP.o,zp5 (zZ7 hkl (by omega) hwt)]
    generalize S[k].1=kd at *;generalize S[k].2=hd at *;go_wp2_with fail
    go_quiet ((go_at_call 76;exact Calls.quiet_of_same (ze3 _ _)))
    go_wp2_with fail
    go_ret2
    exact⟨FJ (by rw[HF.o,HE.o]) (by rw[HF.o,HE.o]),below_drewN (HBm2.o.alloc (by omega) _) _⟩
   have HW2:Hi _:=zZ8 hkl hwt HW.o;have hwt2:AT S[k].1<=(S[k].2:Int):=oM;generalize S[k].1=kd at *;generalize S[k].2=hd at *;go_wp2_with fail
   go_quiet ((go_at_call 76;exact Calls.quiet_of_same (ze3 _ _)))
   go_wp2_with fail;have hdd:Below W2.heap.size W2 ((W2.alloc (Obj.cells #[.int .i64 ((k:Int)+1),.int .i64 kd,.int .i64 hd] 159)).drewN nq):=below_drewN ((Below.refl _ _).alloc (nR_ _) _) _;refine⟨⟨k,by omega,.inr q2,HPOP2.o.below hdd,HW2,HBm2.o.trans (hdd.mono oM),HND2.o.of (λo=>hdd.cell (p:=⟨W.heap.size,o,none⟩) hz3),?_,HOBm⟩,by simp[wg2]⟩;have:=hdd.size;omega
  have HT:Hi (S.take (nd.depth-1).toNat=S.take m/\AX (S.drop (nd.depth-1).toNat)=false):=by
   rcases hmd with rfl | hmd
   ·by_cases hc:S.length<=(nd.depth-1).toNat
    ·exact⟨by rw[List.take_of_length_le hc,List.take_length],by rw[List.drop_of_length_le hc];rfl⟩
    have:S.length=0:=oM;have e:S=[]:=List.length_eq_zero_iff.1 this;subst e;exact⟨by simp,by simp[AX]⟩
   have e:(nd.depth-1).toNat=m\/(m=0/\(nd.depth-1).toNat=0):=oM;rcases e with e | ⟨e1,e2⟩
   ·rw[e];exact⟨rfl,HW.o⟩
   rw[e1,e2];rw[e1]at HW;exact⟨rfl,HW.o⟩
  subst hv;by_cases hm0:m=0
  ·subst hm0
   have HSm2:=hid HSm;clear HSm hlm hcp1 hgo hmd HW;go_wp2_with fail;go_quiet (fail);have hdr:Below wr.heap.size wr (wr.drewN nq):=below_drewN (Below.refl _ _) nq;have HSd:=hid (HSm2.o.below hdr);have HBd:=hid (below_drewN HBm.o nq);have HNDd:Hi (wc3 (wr.drewN nq) W.heap.size nd):=HND.o.of (λo=>hdr.cell (p:=⟨W.heap.size,o,none⟩) hzm);have hz2:W.heap.size<(wr.drewN nq).heap.size:=lL_ hzm hdr.size;clear hdr HSm2 HBm HND hzm d0;generalize wr.drewN nq=W2 at *;obtain⟨c0,c1,c2,c3,c4,c5⟩:=HNDd.o;by_cases hd1:nd.depth=1
   ·have hd1':(nd.depth != 1)=false:=by rw[hd1];rfl
    have HD1:Hi _:=hd1;clear hd1;go_wp2_with fail;refine mq (zw7 _ _ _ _ _ _ _ HOi.o.name) λw3 hb3=>?_;have HB3:Hi (Below w.heap.size w w3):=HBd.o.trans (hb3.mono oM);have HS3:=hid (HSd.o.below hb3);have hz3:W2.heap.size<=w3.heap.size:=hb3.size;have c0':w3.cell? (aD W.heap.size 0)=some (nI nd.depth):=(hb3.cell (p:=⟨W.heap.size,0,none⟩) hz2).trans c0;clear hb3 c0 c1 c2 c3 c4 c5 HNDd HSd HBd;cases hfl:CF nd.kind nd.name.toList nd.num nd.op
    ·have HE:Hi (BR ns 0 [] false=(33,(i:Int))):=by
      unfold Hi;rw[HSTEP.o,zm9 (S1:=[]) HT.o (.inr hfl)]
     go_wp2_with fail
     go_ret2
     exact⟨FJ (by rw[HF.o,HE.o]) (by rw[HF.o,HE.o]),HB3.o⟩
    have HRR:Hi _:=zP1 (ns:=ns.drop (i+1)) (i:=i) (g:=g) HT.o HD1.o hfl;obtain⟨k0,k15⟩:=zs4 hfl;clear hfl;have hd24:nd.depth<=24:=by have:=HD1.o;omega
    have kc:nd.kind=0\/nd.kind=1\/(2<=nd.kind/\nd.kind<=8)\/9<=nd.kind:=oM;generalize hkd:nd.kind=kd at *;have HKD:Hi _:=hkd;clear hkd;rcases kc with rfl | rfl | ⟨kl,kh⟩ | kh
    iterate 2
     ·cases g
      ·have HRR2:Hi (BR ns 0 [] false=BR (ns.drop (i+1)) (i+1) [] false):=by
        unfold Hi;rw[HSTEP.o,HRR.o];rfl
       clear HRR
       go_wp2_with (first|(go_at_call 76;refine mq (ze3 _ _) λw' hw'=>?_;replace hw':=hw'.symm;subst hw';rw[show AT 0=0 from rfl]) | (go_at_call 76;refine mq (ze3 _ _) λw' hw'=>?_;replace hw':=hw'.symm;subst hw';rw[show AT 1=0 from rfl]))
       go_roundw
       case rel=>exact⟨i+1,[],false,by omega,by go_num,rfl,HRR2,HB3,HS3,by simp,λh hh=>by simp at hh⟩
       case measure=>simp[intOf];omega
      have HRR2:Hi (BR ns 0 [] false=(33,(i:Int))):=by unfold Hi;rw[HSTEP.o,HRR.o];rfl
      clear HRR;go_wp2_with fail
      go_ret2
      exact⟨FJ (by rw[HF.o,HRR2.o]) (by rw[HF.o,HRR2.o]),HB3.o⟩
    ·have n0:(kd==0)=false:=by rw[beq_eq_false_iff_ne];omega
     have n1:(kd==1)=false:=by rw[beq_eq_false_iff_ne];omega
     have n9:(kd==9)=false:=by rw[beq_eq_false_iff_ne];omega
     have n00:¬kd=0:=oM;have n10:¬kd=1:=oM;have hs1:(decide (2<=kd)&&decide (kd<=8))=true:=by rw[decide_eq_true kl,decide_eq_true kh];rfl
     have HIS:Hi (∀w,Calls Tryz.prog 78 #[nI kd] w λe w'=>e=.returned (.bool true)/\w'=w):=λw=>(zh9 kd w).mono λe w' h=>by rw[hs1]at h;exact h
     clear hs1;obtain⟨i0,hi0,hz0,hz1,hz2'⟩:=info_parts Tryz.info159
     have HRR2:Hi (BR ns 0 [] false=BR (ns.drop (i+1)) (i+1) (if BJ kd.toNat then [(kd.toNat,0)] else []) true):=by
      unfold Hi;have h1:=HRR.o;rw[zE2 kl,ym4 kl kh]at h1;rw[HSTEP.o,h1]
      cases g<;>rfl
     clear HRR;by_cases hop:0<AT kd
     ·rw[zP2 (by omega) (.inl hop),if_pos rfl]at HRR2
      cases g
      all_goals
       go_wp2_with (first|(go_at_call 76;refine mq (ze3 _ _) λw' hw'=>?_;replace hw':=hw'.symm;subst hw') | (go_at_call 78;refine mq (HIS.o _) λw' hw'=>?_;replace hw':=hw'.symm;subst hw') | (at_builtin;refine wpList_append_own _ rfl _ _ 157 rfl w.heap.size 159 i0 (.agg #[nI 0,nI 0,nI 0]) 3 24 Tryz.underlying157 hi0 hz0 hz1 hz2' rfl dC _ _ _ rfl (HS3.o.grow _) ⟨w3.heap.size,0,none⟩ 1 1 [nI nd.depth,nI kd,nI 0] rfl rfl ?ap1 ?ap2 ?ap3 ?ap4 ?ap5 ?_))
       case ap1 =>
        intro j u hj
        match j,hj with
        | 0,hj=>simp at hj;subst hj;simp[Addr.add,go_sem]
        | 1,hj=>simp at hj;subst hj;simp[Addr.add,go_sem]
        | 2,hj=>simp at hj;subst hj;simp[Addr.add,go_sem]
       case ap2=>intro u hu;simp at hu;rcases hu with rfl | rfl | rfl<;>rfl
       case ap3=>simp[maxLen]
       case ap4=>simp
       case ap5=>simp;omega
       intro v' w1 hown' hgrow _;have HS4:Hi (Stk w1 w.heap.size v' ([]++[(kd.toNat,0)])):=Stk.push hown' rfl (by rw[HD1.o];rfl) (by omega);have HB4:Hi (Below w.heap.size w w1):=(HB3.o.alloc oM _).grown hgrow (by simp;omega) (Stk.base HS3.o);clear hown' hgrow;go_wp2_with fail;go_roundw
       case rel=>exact⟨i+1,[(kd.toNat,0)],true,by omega,by go_num,rfl,HRR2,HB4,HS4,by simp,λh hh=>by simp at hh;subst hh;simp⟩
       case measure=>simp[intOf];omega
     rw[ya0 (by omega) hop (by omega),if_neg (by simp)]at HRR2;have hop2:AT kd<=0:=oM;clear hop;cases g
     all_goals
      go_wp2_with (first|(go_at_call 76;refine mq (ze3 _ _) λw' hw'=>?_;replace hw':=hw'.symm;subst hw') | (go_at_call 78;refine mq (HIS.o _) λw' hw'=>?_;replace hw':=hw'.symm;subst hw'))
      go_roundw
      case rel=>exact⟨i+1,[],true,by omega,by go_num,rfl,HRR2,HB3,HS3,by simp,λh hh=>by simp at hh⟩
      case measure=>simp[intOf];omega
    have n0:(kd==0)=false:=by rw[beq_eq_false_iff_ne];omega
    have n1:(kd==1)=false:=by rw[beq_eq_false_iff_ne];omega
    have n00:¬kd=0:=oM;have n10:¬kd=1:=oM;have hs1:wc6 kd=false:=by unfold wc6;rw[decide_eq_false (by omega:¬kd<=8)];simp
    have HIS:Hi (∀w,Calls Tryz.prog 78 #[nI kd] w λe w'=>e=.returned (.bool false)/\w'=w):=λw=>(zh9 kd w).mono λe w' h=>by have h2:e=.returned (.bool (wc6 kd))/\w'=w:=h;rw[hs1]at h2;exact h2
    have HRR2:Hi (BR ns 0 [] false=(33,(i:Int))):=by
     unfold Hi;have h1:=HRR.o;rw[zE2 (by omega),hs1]at h1;rw[HSTEP.o,h1]
     cases g<;>rfl
    clear HRR hs1;cases g
    all_goals
     go_wp2_with (go_at_call 78;refine mq (HIS.o _) λw' hw'=>?_;replace hw':=hw'.symm;subst hw')
     go_ret2
     exact⟨FJ (by rw[HF.o,HRR2.o]) (by rw[HF.o,HRR2.o]),HB3.o⟩
   have HE:Hi (BR ns 0 [] false=(33,(i:Int))):=by unfold Hi;rw[HSTEP.o,zm9 (S1:=[]) HT.o (.inl hd1)]
   have hd1':(nd.depth != 1)=true:=by rw[bne_iff_ne];exact hd1
   go_wp2_with fail
   go_ret2
   exact⟨FJ (by rw[HF.o,HE.o]) (by rw[HF.o,HE.o]),HBd.o⟩
  obtain⟨k,rfl⟩:∃k,m=k+1:=⟨m-1,by omega⟩;obtain⟨g',cap',hv',hg1,hg2⟩:=HSm.o.form oM;rw[hlm]at hv';simp only[Value.slice.injEq]at hv';obtain⟨rfl,_,rfl⟩:=hv';have q0:(0:Int)<(k:Int)+1:=oM;have q1:(0:Int)<((k+1:Nat):Int):=oM;have q2:(k:Int)+1<nd.depth:=oM;have q3:k<k+1:=oM;have q4:(k:Int)<(k:Int)+1:=oM;have q5:(k:Int)<=24:=oM;have q7:(0:Int)<=k:=oM;have HKS:Hi (∀h∈S.take (k+1),h.2<=i):=λh hh=>HK.o h (List.mem_of_mem_take hh);have hk23:k+1<=24:=oM;clear hgo hmd HW hm0 hm HK hl24;obtain⟨S1,hS1⟩:=qq (S.take (k+1));rw[<-hS1]at HSm hlm HT HKS;clear hS1;have hk1:k<S1.length:=oM;have hk400:S1[k].2<=400:=by have:=HKS.o _ (List.getElem_mem hk1);omega
  obtain⟨e0,e1,e2⟩:=HSm.o.cells (by rw[hlm]) k hk1;have HLM:=hid hlm;clear hlm;go_wp2_with fail;go_quiet (fail);have hdr:Below wr.heap.size wr (wr.drewN nq):=below_drewN (Below.refl _ _) nq;have HSd:=hid (HSm.o.below hdr);have HBd:=hid (below_drewN HBm.o nq);have HNDd:Hi (wc3 (wr.drewN nq) W.heap.size nd):=HND.o.of (λo=>hdr.cell (p:=⟨W.heap.size,o,none⟩) hzm);have hz2:W.heap.size<(wr.drewN nq).heap.size:=lL_ hzm hdr.size;have hg3:g'<(wr.drewN nq).heap.size:=lL_ hg2 hdr.size;clear hdr HSm HBm HND hzm d0 e0 e1 e2 hg2;generalize wr.drewN nq=W2 at *;obtain⟨c0,c1,c2,c3,c4,c5⟩:=HNDd.o;by_cases hd1:nd.depth=(k:Int)+2
  ·have hd1':(nd.depth != (k:Int)+1+1)=false:=by rw[hd1];simp;omega
   have HD1:Hi _:=hd1;clear hd1;go_wp2_with fail;refine mq (zw7 _ _ _ _ _ _ _ HOi.o.name) λw3 hb3=>?_;have HB3:Hi (Below w.heap.size w w3):=HBd.o.trans (hb3.mono oM);have HS3:=hid (HSd.o.below hb3);have hz3:W2.heap.size<=w3.heap.size:=hb3.size;have c0':w3.cell? (aD W.heap.size 0)=some (nI nd.depth):=(hb3.cell (p:=⟨W.heap.size,0,none⟩) hz2).trans c0;clear hb3 c0 c1 c2 c3 c4 c5 HNDd HSd HBd;cases hfl:CF nd.kind nd.name.toList nd.num nd.op
   ·have HE:Hi (BR ns 0 [] false=(33,(i:Int))):=by
     unfold Hi;rw[HSTEP.o,zm9 HT.o (.inr hfl)]
    go_wp2_with fail
    go_ret2
    exact⟨FJ (by rw[HF.o,HE.o]) (by rw[HF.o,HE.o]),HB3.o⟩
   have HRR:Hi _:=zZ9 (ns:=ns.drop (i+1)) (i:=i) (g:=g) HT.o (λh=>by have:=HLM.o;rw[h]at this;simp at this) (by rw[HLM.o,HD1.o];omega) hfl;obtain⟨k0,k15⟩:=zs4 hfl;clear hfl;obtain⟨e0,e1,e2⟩:=HS3.o.cells HLM.o.symm k hk1;have hfz:=HS3.o.warm HLM.o.symm
   have hgd:S1.getD (S1.length-1) (0,0)=S1[k]:=by
    have e:S1.length-1=k:=by have:=HLM.o;omega
    rw[e,List.getD_eq_getElem?_getD,List.getElem?_eq_getElem hk1];rfl
   rw[hgd]at HRR;clear hgd;have ngw:¬g'=W.heap.size:=by have:=HOBm.o g' rfl;omega
   have ngw2:¬W.heap.size=g':=oM;have HINC:Hi (∀W,Stk W w.heap.size (.slice (sA g' 0) (k+1) cp) S1->Stk (W.setCell ⟨g',k*3+2,none⟩ (nI ((S1[k].2:Int)+1))) w.heap.size (.slice (sA g' 0) (k+1) cp) (BW S1)):=λW h=>h.inc HLM.o.symm HLM.o;have nk0:¬(k:Int)+1=0:=oM;have nk1:((k:Int)+1==0)=false:=by rw[beq_eq_false_iff_ne];omega
   generalize S1[k].1=okd at *;generalize S1[k].2=ohd at *;go_wp2_with fail;refine mq (zs3 _ _ _ _ _) λw4 hb4=>?_;have hg4:g'<w3.heap.size:=oM;have HB4:Hi (Below w.heap.size w w4):=HB3.o.trans (hb4.mono oM);have HS4:=hid (HS3.o.below hb4);have hz4:w3.heap.size<=w4.heap.size:=hb4.size;have c0'':w4.cell? (aD W.heap.size 0)=some (nI nd.depth):=(hb4.cell (p:=⟨W.heap.size,0,none⟩) (by show W.heap.size<w3.heap.size;omega)).trans c0';have e2':w4.cell? ⟨g',k*3+2,none⟩=some (nI ohd):=(hb4.cell (p:=⟨g',k*3+2,none⟩) hg4).trans e2;have hfz':∀j,w4.frozen? (aD g' j)=false:=HS4.o.warm HLM.o.symm;clear hb4 c0' e0 e1 e2 hfz;cases hho:EN okd ohd nd.kind
   ·have HE:Hi (BR ns 0 [] false=(33,(i:Int))):=by
     unfold Hi;rw[HSTEP.o,HRR.o,if_pos hho]
    go_wp2_with fail
    go_ret2
    exact⟨FJ (by rw[HF.o,HE.o]) (by rw[HF.o,HE.o]),HB4.o⟩
   rw[if_neg (by rw[hho];simp)]at HRR;clear hho;have HS5:=hid (HINC.o w4 HS4.o);have HB5:Hi (Below w.heap.size w (w4.setCell ⟨g',k*3+2,none⟩ (nI ((ohd:Int)+1)))):=HB4.o.setCell hg1 _;by_cases hd24:24<nd.depth
   ·rw[if_pos hd24]at HRR
    go_wp2_with fail
    go_ret2
    exact⟨FJ (by rw[HF.o,HSTEP.o,HRR.o]) (by rw[HF.o,HSTEP.o,HRR.o]),HB5.o⟩
   rw[if_neg hd24]at HRR;have hd24':nd.depth<=24:=oM;clear hd24;have HLE:=hid (ya1 HLM.o HKS.o);have HLI:Hi ((BW S1).length=k+1):=by unfold Hi;rw[zT7,HLM.o]
   obtain⟨i0,hi0,hz0,hz1,hz2'⟩:=info_parts Tryz.info159;by_cases hop:0<AT nd.kind\/nd.kind=9
   ·rw[zP2 k0 hop,if_pos rfl]at HRR
    have hk22:k+2<=24:=by have:=HD1.o;omega
    have HOWN:Hi (∀o,((w4.setCell ⟨g',k*3+2,none⟩ (nI ((ohd:Int)+1))).alloc o).ownsRow w.heap.size 159 3 (.slice (sA g' 0) (k+1) cp) (k+1) (CS 0 (BW S1))):=λo=>by have:=HS5.o.grow o;rw[HLI.o]at this;exact this
    have HRR3:Hi (BR ns 0 [] false=BR (ns.drop (i+1)) (i+1) (BW S1++[(nd.kind.toNat,0)]) g):=by unfold Hi;rw[HSTEP.o,HRR.o]
    clear HRR HSTEP HT;generalize nd.kind=kd at *;rcases hop with hop | rfl
    ·go_wp2_with (first|(go_at_call 76;refine mq (ze3 _ _) λw' hw'=>?_;replace hw':=hw'.symm;subst hw') | (at_builtin;refine wpList_append_own _ rfl _ _ 157 rfl w.heap.size 159 i0 (.agg #[nI 0,nI 0,nI 0]) 3 24 Tryz.underlying157 hi0 hz0 hz1 hz2' rfl dC _ _ _ rfl (HOWN.o _) ⟨w4.heap.size,0,none⟩ 1 1 [nI nd.depth,nI kd,nI 0] rfl rfl ?bp1 ?bp2 ?bp3 ?bp4 ?bp5 ?_))
     case bp1 =>
      intro j u hj
      match j,hj with
      | 0,hj=>simp at hj;subst hj;simp[Addr.add,go_sem]
      | 1,hj=>simp at hj;subst hj;simp[Addr.add,go_sem]
      | 2,hj=>simp at hj;subst hj;simp[Addr.add,go_sem]
     case bp2=>intro u hu;simp at hu;rcases hu with rfl | rfl | rfl<;>rfl
     case bp3=>unfold maxLen;omega
     case bp4=>omega
     case bp5=>simp;omega
     intro v' w1 hown' hgrow _;have HS6:Hi (Stk w1 w.heap.size v' (BW S1++[(kd.toNat,0)])):=Stk.push hown' HLI.o.symm (by rw[HLI.o,HD1.o];push_cast;omega) k0;have HB6:Hi (Below w.heap.size w w1):=(HB5.o.alloc (by simp;omega) _).grown hgrow (by simp;omega) (Stk.base HS5.o);clear hown' hgrow;go_wp2_with fail;go_roundw
     case rel=>exact⟨i+1,_,g,by omega,by go_num,rfl,HRR3,HB6,HS6,by rw[List.length_append,HLI.o];simp;omega,λh hh=>by
      rcases List.mem_append.1 hh with hh | hh
      ·exact HLE.o h hh
      simp at hh;subst hh;simp⟩
     case measure=>simp[intOf];omega
    have HOWN':Hi _:=HOWN
    go_wp2_with (first|(go_at_call 76;refine mq (ze3 _ _) λw' hw'=>?_;replace hw':=hw'.symm;subst hw') | (at_builtin;refine wpList_append_own _ rfl _ _ 157 rfl w.heap.size 159 i0 (.agg #[nI 0,nI 0,nI 0]) 3 24 Tryz.underlying157 hi0 hz0 hz1 hz2' rfl dC _ _ _ rfl (HOWN.o _) ⟨w4.heap.size,0,none⟩ 1 1 [nI nd.depth,nI 9,nI 0] rfl rfl ?bq1 ?bq2 ?bq3 ?bq4 ?bq5 ?_))
    case bq1 =>
     intro j u hj
     match j,hj with
     | 0,hj=>simp at hj;subst hj;simp[Addr.add,go_sem]
     | 1,hj=>simp at hj;subst hj;simp[Addr.add,go_sem]
     | 2,hj=>simp at hj;subst hj;simp[Addr.add,go_sem]
    case bq2=>intro u hu;simp at hu;rcases hu with rfl | rfl | rfl<;>rfl
    case bq3=>unfold maxLen;omega
    case bq4=>omega
    case bq5=>simp;omega
    intro v' w1 hown' hgrow _;have HS6:Hi (Stk w1 w.heap.size v' (BW S1++[((9:Int).toNat,0)])):=Stk.push hown' HLI.o.symm (by rw[HLI.o,HD1.o];push_cast;omega) (by omega);have HB6:Hi (Below w.heap.size w w1):=(HB5.o.alloc (by simp;omega) _).grown hgrow (by simp;omega) (Stk.base HS5.o);clear hown' hgrow;go_wp2_with fail;go_roundw
    case rel=>exact⟨i+1,_,g,by omega,by go_num,rfl,HRR3,HB6,HS6,by rw[List.length_append,HLI.o];simp;omega,λh hh=>by
     rcases List.mem_append.1 hh with hh | hh
     ·exact HLE.o h hh
     simp at hh;subst hh;simp⟩
    case measure=>simp[intOf];omega
   rw[ya0 k0 (λh=>hop (.inl h)) (λh=>hop (.inr h)),if_neg (by simp)]at HRR;have HRR3:Hi (BR ns 0 [] false=BR (ns.drop (i+1)) (i+1) (BW S1) g):=by unfold Hi;rw[HSTEP.o,HRR.o]
   clear HRR HSTEP HT;have n9:(nd.kind==9)=false:=by rw[beq_eq_false_iff_ne];exact λh=>hop (.inr h)
   have n90:¬nd.kind=9:=λh=>hop (.inr h)
   have hop2:AT nd.kind<=0:=by
    rcases Int.lt_or_le 0 (AT nd.kind) with h | h
    ·exact absurd (.inl h) hop
    exact h
   clear hop
   go_wp2_with (go_at_call 76;refine mq (ze3 _ _) λw' hw'=>?_;replace hw':=hw'.symm;subst hw')
   go_roundw
   case rel=>exact⟨i+1,_,g,by omega,by go_num,rfl,HRR3,HB5,by unfold Hi;exact HS5.o,by rw[HLI.o];omega,HLE⟩
   case measure=>simp[intOf];omega
  have HE:Hi (BR ns 0 [] false=(33,(i:Int))):=by unfold Hi;rw[HSTEP.o,zm9 HT.o (.inl (by rw[HLM.o];omega))]
  have hd1':(nd.depth != (k:Int)+1+1)=true:=by rw[bne_iff_ne];omega
  go_wp2_with fail
  go_ret2
  exact⟨FJ (by rw[HF.o,HE.o]) (by rw[HF.o,HE.o]),HBd.o⟩
 have hi':ns.length<=i:=oM;have ei:i=ns.length:=oM
 have HE:Hi (BR ns 0 [] false=if AX S then (33,(i:Int)) else (0,0)):=by unfold Hi;rw[hr.o,List.drop_of_length_le hi'];rfl
 obtain⟨ao,cp,hv,hcp1,hcp2⟩:=HS.o.slice;subst hv;clear hr;go_wp2_with fail;go_loopw [12] (λt wv=>∃j:Nat,j<=S.length/\t=nI j/\Hi (AX S=AX (S.drop j))/\Hi (Stk wv w.heap.size (.slice ao S.length cp) S)/\Hi (Below w.heap.size w wv)) (λt _=>S.length-(intOf t).toNat)
 case atStart=>exact⟨0,by omega,rfl,by unfold Hi;rw[List.drop_zero],HS,HB⟩
 obtain⟨j,hj,rfl,HWj,HSj,HBj⟩:=hrel;by_cases hjl:j<S.length
 ·obtain⟨g',cap',hv',hg1,hg2⟩:=HSj.o.form oM
  simp only[Value.slice.injEq]at hv';obtain⟨rfl,_,rfl⟩:=hv';obtain⟨e0,e1,e2⟩:=HSj.o.cells rfl j hjl
  have hstep:AX (S.drop j)=(decide ((S[j].2:Int)<AT S[j].1)||AX (S.drop (j+1))):=by rw[List.drop_eq_getElem_cons hjl];rfl
  have HST:Hi _:=hstep;clear hstep;have hjl2:(j:Int)<S.length:=oM;obtain⟨hwb0,hwb⟩:=zP3 S[j].1;by_cases hwt:(S[j].2:Int)<AT S[j].1
  ·have HE2:Hi (BR ns 0 [] false=(33,(ns.length:Int))):=by
    unfold Hi;rw[HE.o,HWj.o,HST.o,decide_eq_true hwt,<-ei];rfl
   generalize S[j].1=kd at *;generalize S[j].2=hd at *;go_wp2_with fail
   go_quiet ((go_at_call 76;exact Calls.quiet_of_same (ze3 _ _)))
   go_wp2_with fail
   go_ret2
   exact⟨FJ (by rw[HF.o,HE2.o]) (by rw[HF.o,HE2.o]),below_drewN HBj.o _⟩
  have HWn:Hi (AX S=AX (S.drop (j+1))):=by unfold Hi;rw[HWj.o,HST.o,decide_eq_false hwt];rfl
  have hwt2:AT S[j].1<=(S[j].2:Int):=oM;clear hwt HWj;generalize S[j].1=kd at *;generalize S[j].2=hd at *;go_wp2_with fail
  go_quiet ((go_at_call 76;exact Calls.quiet_of_same (ze3 _ _)))
  go_wp2_with fail;go_roundw
  case rel=>exact⟨j+1,by omega,by go_num,HWn,HSj.o.below (below_drewN (Below.refl _ _) _),below_drewN HBj.o _⟩
  case measure=>simp[intOf];omega
 have HE2:Hi (BR ns 0 [] false=(0,0)):=by unfold Hi;rw[HE.o,HWj.o,List.drop_of_length_le (by omega)];rfl
 have hjl2:(S.length:Int)<=j:=oM;go_wp2_with fail
 go_ret2
 exact⟨FJ (by rw[HF.o,HE2.o]) (by rw[HF.o,HE2.o]),HBj.o⟩
end Go.Proofs.YtpongdpnbclchaaGreatDoor
