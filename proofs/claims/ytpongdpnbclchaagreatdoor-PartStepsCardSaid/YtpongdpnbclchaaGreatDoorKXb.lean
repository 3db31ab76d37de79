import Derived.Test.YtpongdpnbclchaaGreatDoorKGe
set_option linter.all false
set_option maxRecDepth 100000
namespace Go.Proofs.YtpongdpnbclchaaGreatDoor
variable{B N cap g i j k m n s:Nat}{V u:Nat->Value}{W w w':World}{Y wd:Nat->List Value}{e:TypeId}{xs:List Value}
section
open Go.RowKit
def rep(n:Nat)(c:List Value):List Value:=(List.replicate n c).flatten
theorem yK4(n:Nat)(c:List Value):(rep n c).length=n*c.length:=by simp[rep]
theorem yK5(n:Nat)(c:List Value):rep (n+1) c=rep n c++c:=by unfold rep;rw[List.replicate_succ'];simp
theorem yJ9{t:Nat}{c:List Value}{u:Value}(hi:i<n)(h:c[t]?=some u):(rep n c)[i*c.length+t]?=some u:=by
 obtain⟨m,rfl⟩:∃m,n=i+1+m:=⟨n-i-1,by omega⟩;have ht:=(List.getElem?_eq_some_iff.1 h).1
 have e:rep (i+1+m) c=rep i c++(c++rep m c):=by unfold rep;rw[show i+1+m=i+(1+m) by omega,<-List.replicate_append_replicate,<-List.replicate_append_replicate,List.flatten_append,List.flatten_append];simp
 rw[e,List.getElem?_append_right (by rw[yK4];omega),yK4,Nat.add_sub_cancel_left,List.getElem?_append_left ht];exact h
theorem yK2{P:Program}{base:Nat}{t ty:TypeId}{i:TypeInfo}{z r:Value}{size bytes:Nat}(ht:P.underlying t=some (.slice e))(hi:P.info? e=some i)(hz:i.zero=some z)(hsize:i.size=size)(hby:i.bytes=bytes)
  {v:Value} (hown:w.ownsRow base e size v n xs) {a:Addr} {c:Nat} {news:List Value} (hl:news.length=m*size) (hnews:∀j u,news[j]?=some u->w.cell? (a.add j)=some u) (h1:∀u∈news,u.oneCell'=true)
  (h63:n+m<=maxLen) (hbytes:(n+m)*bytes<=140737488355328) (hrun:(Builtin.append_ #[t,t] ty #[v,.slice (some a) m c]).run P w=.ok r w'):w'.ownsRow base e size v n xs:=by
 subst hsize hby;have hsmall:n+m<=9223372036854775807:=by simp only[maxLen]at h63;omega
 rcases hown.2 with ⟨rfl,rfl⟩ | ⟨g,cap,cur,rfl,hbg,hg,hnc,hcm,hcs,htake⟩
 ·have hx:xs=[]:=List.eq_nil_of_length_eq_zero (by simpa using hown.1)
  subst hx;exact World.ownsRow_nil _ _ _ _
 refine⟨hown.1,.inr ⟨g,cap,?_⟩⟩;by_cases hroom:n+m<=cap
 ·have hfit:n*i.size+news.length<=cur.size:=by rw[hl,hcs,<-Nat.add_mul];exact Nat.mul_le_mul_right _ hroom
  rw[run_append_room (P:=P) w t ty e i ht hi g n cap cur hg a m c news hl hnews h1 hroom hfit]at hrun
  injection hrun with _ hrun
  subst hrun;have hns:n*i.size<=cur.toList.length:=by rw[Array.length_toList];omega
  refine⟨_,rfl,hbg,setRow_heap w g cur _ e _ hg,hnc,hcm,?_,?_⟩
  ·simp only[List.size_toArray,List.length_append,List.length_take,List.length_drop,Array.length_toList]
   omega
  rw[List.append_assoc,List.take_append_of_le_length (by rw[List.length_take];omega),List.take_take,Nat.min_self];exact htake
 have holds:∀j u,xs[j]?=some u->w.cell? ((⟨g,0,none⟩:Addr).add j)=some u:=hown.cells (g:=g) rfl;rw[run_append_grow (P:=P) w t ty e i z ht hi hz ⟨g,0,none⟩ n cap xs hown.1 holds a m c news hl hnews (by omega) (by omega) (growslice_fits (by omega) hbytes)]at hrun
 injection hrun with _ hrun
 subst hrun;exact⟨cur,rfl,hbg,(Below.heap_alloc w.drew _ _ (za2 hg)).trans hg,hnc,hcm,hcs,htake⟩
theorem yJ4{P:Program}(w:World){ops:Array Oper}{rest:List Oper}{o:Oper}{a:Act}{Q:Exit->Act->World->Prop}(hgd:o.guard=none)(s x:Operand)(t:TypeId)
  (ho:o.op=.call { callee:=.builtin .append,args:=#[s,x],argTypes:=#[t,t] })
  (base:Nat) (e:TypeId) (i:TypeInfo) (z:Value) (size bytes:Nat) (ht:P.underlying t=some (.slice e)) (hi:P.info? e=some i) (hz:i.zero=some z)
  (hsize:i.size=size) (hby:i.bytes=bytes) (hzs:z.cells.size=size) (hsz:0<size)
  (v:Value) (n:Nat) (xs:List Value) (hs:a.eval s=v) (hown:w.ownsRow base e size v n xs)
  (ad:Addr) (m c:Nat) (news:List Value) (hx:a.eval x=.slice (some ad) m c) (hl:news.length=m*size) (hnews:∀j u,news[j]?=some u->w.cell? (ad.add j)=some u) (h1:∀u∈news,u.oneCell'=true)
  (hm:0<m) (h63:n+m<=maxLen) (hbytes:(n+m)*bytes<=140737488355328) (hbase:base<=w.heap.size)
  (h:∀g cap w',w'.ownsRow base e size (.slice (sA g 0) (n+m) cap) (n+m) (xs++news)->w.grownBy w' v.ownBlock->(v.ownBlock=some g\/g=w.heap.size)->w'.ownsRow base e size v n xs->wpList P ops Q rest (a.put o.dst (.slice (sA g 0) (n+m) cap)) w'):wpList P ops Q (o::rest) a w:=by
 refine wpList_plain hgd λK hK=>?_;obtain⟨g,cap,w',hr,h2,h3,h4,h5⟩:=run_append_lies (P:=P) w t o.type base e i z size bytes ht hi hz hsize hby hzs hsz v n xs hown ad m c news hl hnews h1 hm h63 hbytes hbase w.heap.size rfl;have h6:=yK2 ht hi hz hsize hby hown hl hnews h1 h63 hbytes hr;unfold Oper.wp execOp;simp only[ho,resolve,invoke,builtin,Sem.run_bind,Sem.run_pure,Result.andThen_ok,List.map_toArray,List.map_cons,List.map_nil,hs,hx,hr];exact hK _ _ (h g cap w' h2 h3 h4 h6)
end
section
open Go.RowKit
def wd6(N:Nat)(V:Nat->Value):Prop:=∀j j',j<N->j'<N->j≠j'->∀b,(V j).ownBlock=some b->(V j').ownBlock≠some b
def wd7{α:Type}(Y:Nat->α)(k:Nat)(x:α)(j:Nat):α:=if j=k then x else Y j
theorem yI6{α:Type}(Y:Nat->α)(k:Nat)(x:α):wd7 Y k x k=x:=if_pos rfl
theorem yI7{α:Type}(Y:Nat->α)(x:α)(h:j≠k):wd7 Y k x j=Y j:=if_neg h
structure MK(W w:World)(B N:Nat)(e:TypeId)(s:Nat)(V:Nat->Value)(n:Nat->Nat)(Y:Nat->List Value):Prop where
 row:∀j,j<N->w.ownsRow B e s (V j) (n j) (Y j)
 bel:Below B W w
 le:B<=W.heap.size
 fr:∀b,b<W.heap.size->(∀j,j<N->(V j).ownBlock≠some b)->w.heap[b]?=W.heap[b]?
theorem MK.call{n:Nat->Nat}(h:MK W w B N e s V n Y)(hk:Ok w w'):MK W w' B N e s V n Y :=
 { h with
  row:=λj hj=>za1 (h.row j hj) hk
  bel:=h.bel.trans (Below.mono hk (Nat.le_trans h.le h.bel.size))
  fr:=λb hb hn=>(Below.block hk b (lL_ hb h.bel.size)).trans (h.fr b hb hn) }
theorem MK.put{n:Nat->Nat}(h:MK W w B N e s V n Y)(hd:wd6 N V)(hk:k<N)(hV:V k=.slice (sA g 0) (n k) cap)(hi:i<n k*s)(u:Value):MK W (w.setCell (aD g i) u) B N e s V n (wd7 Y k ((Y k).set i u)):=by
 have hr:=h.row k hk;rw[hV]at hr;have hg:=hr.lt g rfl;refine⟨λj hj=>?_,h.bel.setCell (p:=⟨g,i,none⟩) hg.1 u,h.le,λb hb hn=>?_⟩
 ·by_cases e1:j=k
  ·subst e1
   rw[yI6,hV];exact zA1 hr u hi
  rw[yI7 _ _ e1];exact zc7 (h.row j hj) (p:=⟨g,i,none⟩) (hd k j hk hj (λe2=>e1 e2.symm) g (by rw[hV];rfl)) u
 exact(Below.heap_setCell _ _ _ _ (λe1=>hn k hk (by rw[hV,e1];rfl))).trans (h.fr b hb hn)
theorem yK0{l:List Value}(hi:i<l.length)(u:Value):(l.set i u).take (i+1)=l.take i++[u]:=by rw[List.take_succ_eq_append_getElem (by simpa using hi),List.take_set_of_le (Nat.le_refl _)];simp
theorem yM0{l:List Value}(hi:i+1<l.length)(u v:Value):((l.set i u).set (i+1) v).take (i+2)=l.take i++[u,v]:=by rw[yK0 (by simpa using hi),yK0 (by omega)];simp
structure GW(W w:World)(B N:Nat)(e:TypeId)(s:Nat)(wd:Nat->List Value)(V:Nat->Value)(n:Nat->Nat)(u:Nat->Value)(m:Nat->Nat):Prop where
 row:∀j,j<N->w.ownsRow B e s (u j) (m j) (rep (m j) (wd j))
 old:∀j,j<N->w.ownsRow B e s (V j) (n j) (rep (n j) (wd j))
 ge:∀j,j<N->n j<=m j
 loc:∀j,j<N->(u j).ownBlock=(V j).ownBlock\/∃b,(u j).ownBlock=some b/\W.heap.size<=b
 ds:wd6 N u
 d0:wd6 N V
 lt:∀j,j<N->∀b,(V j).ownBlock=some b->b<W.heap.size
 bel:Below B W w
 le:B<=W.heap.size
 fr:∀b,b<W.heap.size->(∀j,j<N->(V j).ownBlock≠some b)->w.heap[b]?=W.heap[b]?
theorem MK.gw{n:Nat->Nat}(h:MK W w B N e s V n Y)(hd:wd6 N V)(hlt:∀j,j<N->∀b,(V j).ownBlock=some b->b<W.heap.size)(hY:∀j,j<N->Y j=rep (n j) (wd j)):GW W w B N e s wd V n V n :=
 ⟨λj hj=>hY j hj ▸ h.row j hj,λj hj=>hY j hj ▸ h.row j hj,λj _=>nR_ _,λj _=>.inl rfl,hd,hd,hlt,h.bel,h.le,h.fr⟩
theorem GW.call{n:Nat->Nat}{m:Nat->Nat}(h:GW W w B N e s wd V n u m)(hk:Ok w w'):GW W w' B N e s wd V n u m :=
 { h with
  row:=λj hj=>za1 (h.row j hj) hk
  old:=λj hj=>za1 (h.old j hj) hk
  bel:=h.bel.trans (Below.mono hk (Nat.le_trans h.le h.bel.size))
  fr:=λb hb hn=>(Below.block hk b (lL_ hb h.bel.size)).trans (h.fr b hb hn) }
theorem GW.grow{s':Nat}{e':TypeId}{n:Nat->Nat}{m:Nat->Nat}{lv:Value}{ys:List Value}(h:GW W w B N e s wd V n u m)(hl:w.ownsRow W.heap.size e' s' lv k ys)(he:e≠e')(hg:w.grownBy w' lv.ownBlock):GW W w' B N e s wd V n u m :=
 have hz:=h.bel.size;have hb:∀b,b<W.heap.size->w'.heap[b]?=w.heap[b]?:=λb hb=>hg.block b oM (λe1=>by have:=(hl.lt b e1.symm).1;omega)
 { h with
  row:=λj hj=>zd6 (h.row j hj) hl he hg
  old:=λj hj=>zd6 (h.old j hj) hl he hg
  bel:=⟨hg.os.trans h.bel.os,hg.tape.trans h.bel.tape,hg.output.trans h.bel.output,Nat.le_trans hz hg.size,λb hb1=>(hb b (lL_ hb1 h.le)).trans (h.bel.block b hb1)⟩
  fr:=λb hb1 hn=>(hb b hb1).trans (h.fr b hb1 hn) }
theorem yL2{B' cap':Nat}{ys:List Value}(hs:0<s)(h:w.ownsRow B e s (.slice (sA g 0) n cap) n xs)(h':w.ownsRow B' e s (.slice (sA g 0) m cap') m ys):cap=cap':=by
 rcases h.2 with ⟨e1,_⟩ | ⟨g1,cap1,cur1,e1,_,k1,_,_,k2,_⟩
 ·cases e1
 rcases h'.2 with ⟨e2,_⟩ | ⟨g2,cap2,cur2,e2,_,l1,_,_,l2,_⟩
 ·cases e2
 injection e1 with a1 _ a3
 injection a1 with a1
 injection a1 with a1 _ _
 injection e2 with b1 _ b3
 injection b1 with b1
 injection b1 with b1 _ _
 subst a1 b1 a3 b3;rw[k1]at l1
 injection l1 with l1
 injection l1 with l1 _
 subst l1;rw[k2]at l2;exact Nat.eq_of_mul_eq_mul_right hs l2
theorem yK7(c:List Value)(h:n<=m):rep m c=rep n c++rep (m-n) c:=by unfold rep;rw[<-List.flatten_append,List.replicate_append_replicate,show n+(m-n)=m by omega]
theorem GW.app{n:Nat->Nat}{m:Nat->Nat}(h:GW W w B N e s wd V n u m)(hs:0<s)(hwd:∀j,(wd j).length=s)(hj:j<N)
  (h1:w'.ownsRow B e s (.slice (sA g 0) (m j+1) cap) (m j+1) (rep (m j) (wd j)++wd j)) (h2:w.grownBy w' (u j).ownBlock) (h3:(u j).ownBlock=some g\/g=w.heap.size) (h4:w'.ownsRow B e s (u j) (m j) (rep (m j) (wd j))) :
  GW W w' B N e s wd V n (wd7 u j (.slice (sA g 0) (m j+1) cap)) (wd7 m j (m j+1)):=by
 have hz:=h.bel.size
 have blk:∀b,b<W.heap.size->(∀j',j'<N->(V j').ownBlock=some b->j'≠j)->some b≠(u j).ownBlock:=λb hb hn e=>by
  rcases h.loc j hj with l | ⟨b',l,l2⟩
  ·exact hn j hj (by rw[<-l];exact e.symm) rfl
  rw[l]at e;have:=Option.some.inj e;omega
 refine⟨λj' hj'=>?_,λj' hj'=>?_,λj' hj'=>?_,λj' hj'=>?_,λj1 j2 hj1 hj2 hne b hb=>?_,h.d0,h.lt,?_,h.le,λb hb hn=>?_⟩
 ·by_cases e:j'=j
  ·subst e;rw[yI6,yI6,yK5];exact h1
  rw[yI7 _ _ e,yI7 _ _ e];exact zb4 (h.row j' hj') λb hb=>h2.block b ((h.row j' hj').lt b hb).2 (λe2=>h.ds j' j hj' hj e b hb e2.symm)
 ·by_cases e:j'=j
  ·subst e
   by_cases eb:(u j').ownBlock=(V j').ownBlock
   ·by_cases hn0:n j'=0
    ·obtain⟨ao,cp,e1⟩:=za0 (h.old j' hj')
     cases hb:(V j').ownBlock with
     | none=>exact zb4 (h.old j' hj') λb hb1=>by rw[hb]at hb1;cases hb1
     | some b =>
      have hu:∃cp,u j'=.slice (sA b 0) (m j') cp:=by
       rcases(h.row j' hj').2 with ⟨e5,_⟩ | ⟨g',cp',cur',e5,_⟩
       ·rw[e5,hb]at eb;cases eb
       rw[e5,hb]at eb;have:g'=b:=Option.some.inj eb;exact⟨cp',by rw[e5,this]⟩
      have hv:∃cp,V j'=.slice (sA b 0) (n j') cp:=by
       rcases(h.old j' hj').2 with ⟨e5,_⟩ | ⟨g',cp',cur',e5,_⟩
       ·rw[e5]at hb;cases hb
       rw[e5]at hb;have:g'=b:=Option.some.inj hb;exact⟨cp',by rw[e5,this]⟩
      obtain⟨cu,hu⟩:=hu;obtain⟨cv,hv⟩:=hv;have r1:=h.row j' hj';have r2:=h.old j' hj';rw[hu]at r1 h4;rw[hv]at r2 ⊢;rw[yL2 hs r2 r1];refine yj8 (ys:=rep (m j'-n j') (wd j')) (m:=m j') ?_ (by rw[yK4,hwd]) (h.ge j' hj');rw[<-yK7 _ (h.ge j' hj')];exact h4
    obtain⟨b,cv,hv,_⟩:=(h.old j' hj').form oM;obtain⟨b',cu,hu,_⟩:=(h.row j' hj').form (by have:=h.ge j' hj';omega);have:b'=b:=by rw[hu,hv]at eb;exact Option.some.inj eb
    subst this;have r1:=h.row j' hj';have r2:=h.old j' hj';rw[hu]at r1 h4;rw[hv]at r2 ⊢;rw[yL2 hs r2 r1];refine yj8 (ys:=rep (m j'-n j') (wd j')) (m:=m j') ?_ (by rw[yK4,hwd]) (h.ge j' hj');rw[<-yK7 _ (h.ge j' hj')];exact h4
   exact zb4 (h.old j' hj') λb hb=>h2.block b ((h.old j' hj').lt b hb).2 (λe2=>eb (by rw[<-e2,hb]))
  exact zb4 (h.old j' hj') λb hb=>h2.block b ((h.old j' hj').lt b hb).2 (blk b (h.lt j' hj' b hb) λj2 hj2 e2 e3=>by subst e3;exact h.d0 j' j2 hj' hj2 e b hb e2)
 ·by_cases e:j'=j
  ·subst e;rw[yI6];have:=h.ge j' hj';omega
  rw[yI7 _ _ e];exact h.ge j' hj'
 ·by_cases e:j'=j
  ·subst e
   rw[yI6];rcases h3 with h3 | h3
   ·rcases h.loc j' hj' with l | l
    ·left;rw[<-l,h3];rfl
    right;rw[h3]at l;exact l
   right;exact⟨g,rfl,by omega⟩
  rw[yI7 _ _ e];exact h.loc j' hj'
 ·have key:∀j',j'<N->j'≠j->(u j').ownBlock≠some g:=λj' hj' e e2=>by
   rcases h3 with h3 | h3
   ·exact h.ds j' j hj' hj e g e2 h3
   have:=((h.row j' hj').lt g e2).2;omega
  by_cases e1:j1=j
  ·subst e1
   have e2:j2≠j1:=λe=>hne e.symm;rw[yI6]at hb;rw[yI7 _ _ e2];have:g=b:=Option.some.inj hb;subst this;exact key j2 hj2 e2
  by_cases e2:j2=j
  ·subst e2
   rw[yI7 _ _ e1]at hb;rw[yI6];intro e3;have:g=b:=Option.some.inj e3;subst this;exact key j1 hj1 e1 hb
  rw[yI7 _ _ e1]at hb;rw[yI7 _ _ e2];exact h.ds j1 j2 hj1 hj2 hne b hb
 ·exact⟨h2.os.trans h.bel.os,h2.tape.trans h.bel.tape,h2.output.trans h.bel.output,Nat.le_trans hz h2.size,λb hb=>(h2.block b (lL_ hb (Nat.le_trans h.le hz)) (λe=>by have:=((h.row j hj).lt b e.symm).1;omega)).trans (h.bel.block b hb)⟩
 exact(h2.block b (lL_ hb hz) (blk b hb λj' hj' e=>absurd e (hn j' hj'))).trans (h.fr b hb hn)
theorem yJ5(h:w.ownsRow B e s (.slice (sA g 0) n cap) n xs)(o:Nat):w.frozen? (aD g o)=false:=by
 rcases h.2 with ⟨e1,_⟩ | ⟨g',cap',cur,e1,_,hgg,_⟩
 ·cases e1
 injection e1 with e5 _ _
 injection e5 with e5
 injection e5 with e5
 rw[<-e5]at hgg;exact frozen_of_row _ _ _ _ _ hgg
theorem yJ1{ops:Array Oper}{rest:List Oper}{op:Oper}{a:Act}{Q:Exit->Act->World->Prop}(hgd:op.guard=none)(s x:Operand)(lT eT:TypeId)(sz bts:Nat)(z:Value)
  (ho:op.op=.call { callee:=.builtin .append,args:=#[s,x],argTypes:=#[lT,lT] })
  (hund:Tryz.prog.underlying lT=some (.slice eT)) (hinf:(Tryz.prog.info? eT).map (λi=>(i.zero,i.size,i.bytes))=some (some z,sz,bts)) (hzc:z.cells.size=sz) (hsz:0<sz) (hbt:0<bts)
  (base:Nat) (sv:Value) (k:Nat) (ys:List Value) (hs:a.eval s=sv) (hown:w.ownsRow base eT sz sv k ys) (b:Nat) (xs:List Value) (hx:a.eval x=.slice (sA b 0) 1 1) (hl:xs.length=1*sz) (hr:∀j u,xs[j]?=some u->w.cell? ((⟨b,0,none⟩:Addr).add j)=some u) (h1:∀u∈xs,u.oneCell'=true)
  (hb:(k+1)*bts<=140737488355328) (hbase:base<=w.heap.size)
  (h:∀g cap w',w'.ownsRow base eT sz (.slice (sA g 0) (k+1) cap) (k+1) (ys++xs)->w.grownBy w' sv.ownBlock->(sv.ownBlock=some g\/g=w.heap.size)->w'.ownsRow base eT sz sv k ys->wpList Tryz.prog ops Q rest (a.put op.dst (.slice (sA g 0) (k+1) cap)) w'):wpList Tryz.prog ops Q (op::rest) a w:=by
 obtain⟨i,hi,hz,hsi,hby⟩:=zg6 hinf;exact yJ4 w hgd s x lT ho base eT i z sz bts hund hi hz hsi hby hzc hsz sv k ys hs hown ⟨b,0,none⟩ 1 1 xs hx hl hr h1 dC (by have:=Nat.le_mul_of_pos_right (k+1) hbt;unfold maxLen;omega) hb hbase h
end
section
open Go.RowKit
theorem ws7:(Tryz.prog.info? 25).map (λi=>(i.zero,i.size,i.bytes))=some (some (sZ),1,24):=by kernel_rfl
def wI(j:Nat):List Value:=[nI (-1-(j:Int))]
def vsL(V:Nat->Value)(k:Nat):List Value:=(List.range k).map V
theorem yK6(V:Nat->Value)(h:k<N):(vsL V N)[k]?=some (V k):=by unfold vsL;rw[List.getElem?_map,List.getElem?_range h];rfl
theorem yL3(V:Nat->Value)(k:Nat):vsL V (k+1)=vsL V k++[V k]:=by unfold vsL;rw[List.range_succ];simp
theorem yM1(V:Nat->Value)(x:Value)(h:k<=j):vsL (wd7 V j x) k=vsL V k:=by unfold vsL;refine List.map_congr_left λi hi=>?_;have:=List.mem_range.1 hi;exact yI7 _ _ oM
theorem yJ2{B' s' n':Nat}{e':TypeId}{v v':Value}{xs':List Value}(h:w.ownsRow B e s v n xs)(h':w.ownsRow B' e' s' v' n' xs')(he:e≠e'):∀b,v'.ownBlock=some b->v.ownBlock≠some b:=λb hb hb2=>by
 obtain⟨c1,f1,k1⟩:=zf9 h b hb2;obtain⟨c2,f2,k2⟩:=zf9 h' b hb;rw[k1]at k2
 injection k2 with k2
 injection k2 with _ k3
 exact he k3
set_option maxHeartbeats 8000000 in
theorem yN7(N:Nat)(lo:Option Addr)(lc:Nat)(V:Nat->Value)(n:Nat->Nat)(X:Nat->List Value)(B Bl:Nat)(w:World)(hl:w.ownsRow Bl 25 1 (.slice lo N lc) N (vsL V N))(hr:∀j,j<N->w.ownsRow B 3 1 (V j) (n j) (X j))(hd:wd6 N V)(hB:B<=w.heap.size)(hn:∀j,j<N->(n j+64)*8<=140737488355328)(hN:N<=1000000) :
  Calls Tryz.prog 9 #[.slice lo N lc] w λe w'=>e=.returned (.bool true)/\Below B w w'/\w.heap.size<=w'.heap.size/\∀b,b<w.heap.size->(∀j,j<N->(V j).ownBlock≠some b)->w'.heap[b]?=w.heap[b]?:=by
 have HD:=hid hd;have HB:=hid hB;have HN:=hid hn;have HNN:=hid hN;have HM0:Hi (MK w w B N 3 1 V n X):=⟨hr,Below.refl _ _,hB,λ_ _ _=>rfl⟩;have HLT:Hi (∀j,j<N->∀b,(V j).ownBlock=some b->b<w.heap.size):=λj hj b hb=>((hr j hj).lt b hb).2;have HF:Hi (∀j,j<N->∃ao cp,V j=.slice ao (n j) cp):=λj hj=>za0 (hr j hj)
 have HW:Hi (∀Y:World,Below B w Y->(∀b,b<w.heap.size->(∀j,j<N->(V j).ownBlock≠some b)->Y.heap[b]?=w.heap[b]?)->∀k,k<N->∃b,lo=some ⟨b,0,none⟩/\Y.cell? (aD b k)=some (V k)/\b<Y.heap.size):=λY hY hf k hk=>by
  obtain⟨b,cp,e,_⟩:=hl.form oM
  injection e with e1 e2 e3
  subst e1;have hb:=(hl.lt b rfl).2;have h1:=hl.cells (g:=b) rfl k (V k) (yK6 V hk);rw[zb7,Nat.zero_add]at h1;have h2:=hf b hb λj hj=>yJ2 (hr j hj) hl dC b rfl;refine⟨b,rfl,?_,lL_ hb hY.size⟩;rw[<-h1];unfold World.cell?;simp only[h2]
 clear hl hr hd hB hn hN;go_enter Tryz.func9,Tryz.ntmps9;go_wp2_with fail;go_loopw [3] (λt wr=>∃(k:Nat) (Y:Nat->List Value),k<=N/\t=nI (k:Nat)/\Hi (MK w wr B N 3 1 V n Y)/\Hi (∀j,j<k->Y j=rep (n j) (wI j))) (λt _=>N-(intOf t).toNat)
 case atStart=>exact⟨0,X,zL_ _,rfl,HM0,λj hj=>absurd hj (Nat.not_lt_zero _)⟩
 obtain⟨k,Y,hk,rfl,HM,HY⟩:=hrel;by_cases hkl:k<N
 ·have HK:=hid hkl
  have hkl':(k:Int)<(N:Int):=za5 hkl;have hkw:IntKind.i64.wrap ((k:Int)+1)=((k+1:Nat):Int):=zb3 (by have:=HNN.o;omega);have hkm:wrap64 (-1-(k:Int)) = -1-(k:Int):=by unfold wrap64;have:=HNN.o;omega
  have hk0:(0:Int)<=(k:Int):=oM;obtain⟨bl,rfl,lcl,llt⟩:=HW.o wr HM.o.bel HM.o.fr k hkl;obtain⟨ao,cp,hV⟩:=HF.o k hkl;have HV:=hid hV;obtain⟨nk,hnk⟩:=qq (n k);have HNK:Hi (nk=n k/\(nk+64)*8<=140737488355328):=⟨hnk,hnk ▸ HN.o k hkl⟩;rw[hV,<-hnk]at lcl;clear hV hnk;go_wp2_with fail;clear lcl llt;go_loopw [4] (λt wr=>∃(i:Nat) (Z:Nat->List Value),i<=nk/\t=nI (i:Nat)/\Hi (MK w wr B N 3 1 V n Z)/\Hi (∀j,j<k->Z j=rep (n j) (wI j))/\Hi ((Z k).take i=rep i (wI k))) (λt _=>nk-(intOf t).toNat)
  case atStart=>exact⟨0,Y,zL_ _,rfl,HM,HY,rfl⟩
  obtain⟨i,Z,hi,rfl,HI,HZ,HP⟩:=hrel;have hi0:(0:Int)<=(i:Int):=oM;obtain⟨bl',e1,lcl,llt⟩:=HW.o wr HI.o.bel HI.o.fr k HK.o
  injection e1 with e1
  injection e1 with e1 _ _
  subst e1;rw[HV.o,<-HNK.o.1]at lcl;by_cases hil:i<nk
  ·have HIL:=hid hil
   have hil':(i:Int)<(nk:Int):=za5 hil;have hiw:IntKind.i64.wrap ((i:Int)+1)=((i+1:Nat):Int):=by rw[IntKind.wrap_i64];have:=HNK.o;omega
   obtain⟨g,cp',hg,_⟩:=(HI.o.row k HK.o).form (by have:=HNK.o;omega);have hr:=HI.o.row k HK.o;rw[hg]at hr;rw[HV.o,<-HNK.o.1]at hg
   injection hg with hg1 _ hg2
   subst hg1 hg2;have hlz:(Z k).length=nk:=by have:=hr.1;rw[<-HNK.o.1]at this;omega
   obtain⟨u,hu⟩:∃u,(Z k)[i]?=some u:=⟨_,gG_ oM⟩;have lc2:=hr.cells (g:=g) rfl i u hu;rw[zb7,Nat.zero_add]at lc2;have lf2:=yJ5 hr i;have lg2:=(hr.lt g rfl).2;have HGZ:Hi (V k=.slice (sA g 0) (n k) cp/\(Z k).length=nk):=⟨HV.o,hlz⟩;clear hr hu hlz;go_wp2_with fail;clear lc2 lf2 lg2 lcl llt;refine⟨⟨i+1,wd7 Z k ((Z k).set i (nI (-1-(k:Int)))),hil,rfl,HI.o.put HD.o HK.o HGZ.o.1 (by have:=HNK.o.1;omega) _,λj hj=>?_,?_⟩,?_⟩
   ·rw[yI7 _ _ (by omega)];exact HZ.o j hj
   ·rw[yI6,yK0 (by rw[HGZ.o.2];exact HIL.o),HP.o,yK5];rfl
   simp only[intOf,Int.toNat_natCast];omega
  have hil':¬(i:Int)<(nk:Int):=oM;have hin:i=nk:=oM;subst hin;go_wp2_with fail;clear lcl llt;go_roundw
  ·refine⟨k+1,Z,HK.o,rfl,HI,λj hj=>?_⟩
   by_cases e:j=k
   ·subst e
    have h1:=(HI.o.row j HK.o).1;have h2:=HP.o;rw[List.take_of_length_le (by rw[h1];have:=HNK.o.1;omega)]at h2;rw[h2,HNK.o.1]
   exact HZ.o j oM
  have:=HK.o;simp only[intOf];omega
 have hkl':¬(k:Int)<(N:Int):=oM;have hkN:k=N:=oM;subst hkN;have HG0:=hid (HM.o.gw HD.o HLT.o HY.o);go_wp2_with fail;clear hkl' hkl hk HM HY;go_loopw [5,6] (λs5 t wr=>∃(q:Nat) (u:Nat->Value) (m:Nat->Nat) (qo:Option Addr) (qc:Nat),q<=k/\s5=.slice qo q qc/\t=nI (q:Nat)/\Hi (GW w wr B k 3 1 wI V n u m)/\Hi (∀j,j<q->m j=n j+64)/\Hi (∀j,q<=j->m j=n j/\u j=V j)/\Hi (wr.ownsRow w.heap.size 25 1 (.slice qo q qc) q (vsL u q))) (λ_ t _=>k-(intOf t).toNat)
 case atStart=>exact⟨0,V,n,none,0,zL_ _,rfl,rfl,HG0,λj hj=>absurd hj (Nat.not_lt_zero _),λj _=>⟨rfl,rfl⟩,World.ownsRow_nil _ _ _ _⟩
 clear HG0;obtain⟨q,u,m,qo,qc,hq,rfl,rfl,HG,HM1,HM2,HQ⟩:=hrel;by_cases hql:q<k
 ·have HK:=hid hql
  have hql':(q:Int)<(k:Int):=za5 hql;have hqw:IntKind.i64.wrap ((q:Int)+1)=((q+1:Nat):Int):=zb3 (by have:=HNN.o;omega);have hqm:wrap64 (-1-(q:Int)) = -1-(q:Int):=by unfold wrap64;have:=HNN.o;omega
  have hq0:(0:Int)<=(q:Int):=oM;obtain⟨bl,rfl,lcl,llt⟩:=HW.o wr HG.o.bel HG.o.fr q hql;obtain⟨ao,cp,hV⟩:=HF.o q hql;have HV:=hid hV;obtain⟨nk,hnk⟩:=qq (n q);have HNK:Hi (nk=n q/\(nk+64)*8<=140737488355328):=⟨hnk,hnk ▸ HN.o q hql⟩;rw[hV,<-hnk]at lcl;clear hV hnk;go_wp2_with fail;clear lcl llt;have HST:Hi (m q=nk/\u q=.slice ao nk cp):=⟨by rw[(HM2.o q (Nat.le_refl _)).1];exact HNK.o.1.symm,by rw[(HM2.o q (Nat.le_refl _)).2,HV.o,<-HNK.o.1]⟩;go_loopw [7,8] (λs7 t wr=>∃(i:Nat) (u:Nat->Value) (m:Nat->Nat) (xo:Option Addr) (xc:Nat),i<=64/\s7=.slice xo (nk+i) xc/\t=nI (i:Nat)/\Hi (GW w wr B k 3 1 wI V n u m)/\Hi (∀j,j<q->m j=n j+64)/\Hi (∀j,q<j->m j=n j/\u j=V j)/\Hi (m q=nk+i/\u q=.slice xo (nk+i) xc)/\Hi (wr.ownsRow w.heap.size 25 1 (.slice qo q qc) q (vsL u q))) (λ_ t _=>64-(intOf t).toNat)
  case atStart=>exact⟨0,u,m,ao,cp,zL_ _,rfl,rfl,HG,HM1,λj hj=>HM2.o j (Nat.le_of_lt hj),HST,HQ⟩
  clear HG HM1 HM2 HQ HST;obtain⟨i,u,m,xo,xc,hi,rfl,rfl,HG,HM1,HM2,HS,HQ⟩:=hrel;by_cases hil:i<64
  ·have HIL:=hid hil
   have hil':(i:Int)<64:=oM;have hiw:IntKind.i64.wrap ((i:Int)+1)=((i+1:Nat):Int):=zb3 oM;have HGA:Hi (GW w (wr.alloc (Obj.cells #[nI (-1-(q:Int))] 3)) B k 3 1 wI V n u m):=HG.o.call ((Ok.refl _).alloc _);have HQA:Hi ((wr.alloc (Obj.cells #[nI (-1-(q:Int))] 3)).ownsRow w.heap.size 25 1 (.slice qo q qc) q (vsL u q)):=za1 HQ.o ((Ok.refl _).alloc _);have HRA:Hi ((wr.alloc (Obj.cells #[nI (-1-(q:Int))] 3)).ownsRow B 3 1 (.slice xo (nk+i) xc) (nk+i) (rep (nk+i) (wI q))):=by have h:=HGA.o.row q HK.o;rw[HS.o.1,HS.o.2]at h;exact h
   have HBZ:=hid (Nat.le_trans HG.o.le HG.o.bel.size)
   go_wp2_with (first|(at_builtin;refine yJ1 rfl _ _ 25 3 1 8 _ rfl Tryz.underlying25 wb1 (by rfl) (by decide) (by decide) B (.slice xo (nk+i) xc) (nk+i) (rep (nk+i) (wI q)) (by rfl) HRA.o wr.heap.size (wI q) (by rfl) (by rfl) (λj v hj=>by rw[zb7,Nat.zero_add];exact(cell_of_row _ _ j _ _ _ (za3 _ _)).trans (by simpa[wI] using hj)) (by simp[wI,Value.oneCell']) (by have:=HNK.o;omega) (by have:=HBZ.o;simp;omega) ?_;intro g cg w9 k1 k2 k3 k4;have HK1:=hid k1;have HK2:=hid k2;have HK3:=hid k3;have HK4:=hid k4;clear k1 k2 k3 k4)|fail)
   have HGN:Hi (GW w w9 B k 3 1 wI V n (wd7 u q (.slice (sA g 0) (m q+1) cg)) (wd7 m q (m q+1))):=HGA.o.app (by decide) (λ_=>rfl) HK.o (by rw[HS.o.1];exact HK1.o) (by rw[HS.o.2];exact HK2.o) (by rw[HS.o.2];exact HK3.o) (by rw[HS.o.1,HS.o.2];exact HK4.o);have HQN:Hi (w9.ownsRow w.heap.size 25 1 (.slice qo q qc) q (vsL u q)):=zd6 HQA.o HRA.o dC HK2.o;clear HGA HQA HRA HK1 HK2 HK3 HK4 HG HQ;refine⟨⟨i+1,_,_,some ⟨g,0,none⟩,cg,hil,rfl,rfl,HGN,λj hj=>?_,λj hj=>?_,⟨?_,?_⟩,?_⟩,?_⟩
   ·rw[yI7 _ _ (by omega)];exact HM1.o j hj
   ·rw[yI7 _ _ (by omega),yI7 _ _ (by omega)];exact HM2.o j hj
   ·rw[yI6,HS.o.1];rfl
   ·rw[yI6,HS.o.1];rfl
   ·rw[yM1 _ _ (Nat.le_refl _)];exact HQN.o
   simp only[intOf];omega
  have hil':¬(i:Int)<64:=oM;have hi64:i=64:=oM;subst hi64;have HGA:Hi (GW w (wr.alloc (Obj.cells #[.slice xo (nk+64) xc] 25)) B k 3 1 wI V n u m):=HG.o.call ((Ok.refl _).alloc _);have HQA:Hi ((wr.alloc (Obj.cells #[.slice xo (nk+64) xc] 25)).ownsRow w.heap.size 25 1 (.slice qo q qc) q (vsL u q)):=za1 HQ.o ((Ok.refl _).alloc _);have HBZ:=hid HG.o.bel.size
  go_wp2_with (first|(at_builtin;refine ze4 rfl _ _ 41 25 1 24 _ rfl Tryz.underlying41 ws7 (by rfl) (by decide) (by decide) w.heap.size (.slice qo q qc) q (vsL u q) (by rfl) HQA.o (.slice (sA wr.heap.size 0) 1 1) 1 [.slice xo (nk+64) xc] (by rfl) (SL.one wr 25 [.slice xo (nk+64) xc] rfl (by simp[Value.oneCell'])) (by have h1:=HNN.o;have h2:=HK.o;omega) (by have:=HBZ.o;simp;omega) ?_;intro v9 w9 k1 k2;have HK1:=hid k1;have HK2:=hid k2;clear k1 k2)|fail)
  have HGN:Hi (GW w w9 B k 3 1 wI V n u m):=HGA.o.grow HQA.o dC HK2.o;obtain⟨vo,vc,rfl⟩:=za0 HK1.o;go_roundw
  ·refine⟨q+1,u,m,vo,vc,HK.o,rfl,rfl,HGN,λj hj=>?_,λj hj=>HM2.o j hj,?_⟩
   ·by_cases e:j=q
    ·subst e;rw[HS.o.1,HNK.o.1]
    exact HM1.o j oM
   rw[yL3,HS.o.2];exact HK1.o
  have:=HK.o;simp only[intOf];omega
 have hql':¬(q:Int)<(k:Int):=oM;have hqk:q=k:=oM;subst hqk;go_wp2_with fail;clear hql' hql hq HM2 HB HM0 HLT HD;obtain⟨w3,hw3⟩:=qq (wr);rw[<-hw3]at HG HQ ⊢;clear hw3
 have HCL:Hi (∀Y,Ok w3 Y->∀p,p<q->∃bq bl gx ux ao cp,qo=some ⟨bq,0,none⟩/\lo=some ⟨bl,0,none⟩/\Y.cell? (aD bq p)=some (.slice (sA gx 0) (n p+64) ux)/\bq<Y.heap.size/\Y.cell? (aD bl p)=some (.slice ao (n p) cp)/\bl<Y.heap.size/\gx<Y.heap.size/\(∀i,i<n p+64->Y.cell? (aD gx i)=some (nI (-1-(p:Int))))/\(∀i,i<n p->∃gv,ao=some ⟨gv,0,none⟩/\gv<Y.heap.size/\Y.cell? (aD gv i)=some (nI (-1-(p:Int))))):=λY hY p hp=>by
  have hG:=HG.o.call hY;obtain⟨bl,e1,c1,l1⟩:=HW.o Y hG.bel hG.fr p hp;obtain⟨ao,cp,hV⟩:=HF.o p hp;have hQ:=za1 HQ.o hY;obtain⟨bq,cq,e2,_⟩:=hQ.form oM
  injection e2 with e2 _ _
  subst e2;have c2:=hQ.cells (g:=bq) rfl p (u p) (yK6 u hp);rw[zb7,Nat.zero_add]at c2;have hr:=hG.row p hp;obtain⟨gx,ux,e3,_⟩:=hr.form (by rw[HM1.o p hp];omega);rw[e3,HM1.o p hp]at hr;rw[e3,HM1.o p hp]at c2;refine⟨bq,bl,gx,ux,ao,cp,rfl,e1,c2,(hQ.lt bq rfl).2,hV ▸ c1,l1,(hr.lt gx rfl).2,λi hi=>?_,λi hi=>?_⟩
  ·have h:=hr.cells (g:=gx) rfl _ _ (yJ9 (c:=wI p) (t:=0) hi rfl)
   rw[zb7]at h;simpa[wI] using h
  have ho:=hG.old p hp;obtain⟨gv,uv,e4,_⟩:=ho.form oM;rw[e4]at ho hV
  injection hV with e5 _ _
  subst e5;have h:=ho.cells (g:=gv) rfl _ _ (yJ9 (c:=wI p) (t:=0) hi rfl);rw[zb7]at h;exact⟨gv,rfl,(ho.lt gv rfl).2,by simpa[wI] using h⟩
 have HE:Hi (∀Y,Ok w3 Y->Below B w Y/\w.heap.size<=Y.heap.size/\∀b,b<w.heap.size->(∀j,j<q->(V j).ownBlock≠some b)->Y.heap[b]?=w.heap[b]?):=λY hY=>⟨(HG.o.call hY).bel,(HG.o.call hY).bel.size,(HG.o.call hY).fr⟩;clear HG HQ HM1 HW HF;go_loopw [9] (λt wr=>∃p:Nat,p<=q/\t=nI (p:Nat)/\Hi (Ok w3 wr)) (λt _=>q-(intOf t).toNat)
 case atStart=>exact⟨0,zL_ _,rfl,Ok.refl _⟩
 obtain⟨p,hp,rfl,HK3⟩:=hrel;by_cases hpl:p<q
 ·have HP:=hid hpl
  have hpl':(p:Int)<(q:Int):=za5 hpl;have hpw:IntKind.i64.wrap ((p:Int)+1)=((p+1:Nat):Int):=zb3 (by have:=HNN.o;omega);have hpm:wrap64 (-1-(p:Int)) = -1-(p:Int):=by unfold wrap64;have:=HNN.o;omega
  have hp0:(0:Int)<=(p:Int):=oM;obtain⟨np,hnp⟩:=qq (n p);have HNP:Hi (np=n p/\(np+64)*8<=140737488355328):=⟨hnp,hnp ▸ HN.o p hpl⟩;clear hnp;go_wp2_with fail;go_loopw [10] (λt wr=>∃i:Nat,i<=np+64/\t=nI (i:Nat)/\Hi (Ok w3 wr)) (λt _=>(np+64)-(intOf t).toNat)
  case atStart=>exact⟨0,zL_ _,rfl,HK3⟩
  clear HK3;obtain⟨i,hi,rfl,HK3⟩:=hrel;have hi0:(0:Int)<=(i:Int):=oM;have hiw:IntKind.i64.wrap ((i:Int)+1)=((i+1:Nat):Int):=by rw[IntKind.wrap_i64];have:=HNP.o;omega
  obtain⟨bq,bl,gx,ux,ao,cp,rfl,rfl,c1,l1,c2,l2,l3,c3,c4⟩:=HCL.o wr HK3.o p HP.o;rw[<-HNP.o.1]at c1 c2 c3 c4;by_cases hil:i<np+64
  ·have hil':(i:Int)<((np+64:Nat):Int):=oM
   have c5:=c3 i hil;by_cases hin:i<np
   ·have hin':(i:Int)<(np:Int):=oM
    obtain⟨gv,rfl,l6,c6⟩:=c4 i hin;clear c3 c4;go_wp2_with fail;refine⟨⟨i+1,hil,rfl,HK3⟩,?_⟩;simp only[intOf];omega
   have hin':¬(i:Int)<(np:Int):=oM;clear c3 c4;go_wp2_with fail;refine⟨⟨i+1,hil,rfl,HK3⟩,?_⟩;simp only[intOf];omega
  have hil':¬(i:Int)<((np+64:Nat):Int):=oM;clear c3 c4;go_wp2_with fail;go_roundw
  ·exact⟨p+1,HP.o,rfl,HK3⟩
  have:=HP.o;simp only[intOf];omega
 have hpl':¬(p:Int)<(q:Int):=oM;go_wp2_with fail;go_ret;exact⟨rfl,HE.o wr HK3.o⟩
end
end Go.Proofs.YtpongdpnbclchaaGreatDoor
