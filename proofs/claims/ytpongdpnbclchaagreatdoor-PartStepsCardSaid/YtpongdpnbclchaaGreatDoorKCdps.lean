import Derived.Test.YtpongdpnbclchaaGreatDoorKCmshp
set_option linter.all false
namespace Go.Proofs.YtpongdpnbclchaaGreatDoor
variable{B g i q:Nat}{W w w':World}{a0 a1 a2 a3 a4 a5:Value}{n:Nat->Nat}{nd:Nd}{ns:List Nd}{r:Rd}{v:Nat->Value}{x:Nat->List Value}
section
open Go.RowKit
theorem zh3(kind:Int)(v:List UInt8)(n:Nd)(t:List Nd)(hn:n.kind≠0/\n.kind≠1):∀(A:List Nd) (a:Int) (c:Nat),AN kind v (A++n::t) a c=AN kind v A a c
 | [],a,c=>by show AN kind v (n::t) a c=(a,c);rw[AN,if_pos hn]
 | m::A,a,c=>by
  rw[List.cons_append,AN,AN]
  split
  ·rfl
  split
  ·exact zh3 kind v n t hn A _ _
  exact zh3 kind v n t hn A _ _
theorem zk0(kind:Int)(v:List UInt8)(n:Nd)(hn:n.kind=0\/n.kind=1):∀(A:List Nd) (a:Int) (c:Nat),(∀x∈A,x.kind=0\/x.kind=1) ->
  AN kind v (A++[n]) a c=if n.kind≠kind then AN kind v A a c else (if (n.name.toList==v)&&decide ((AN kind v A a c).1<0) then ((AN kind v A a c).2:Int) else (AN kind v A a c).1,(AN kind v A a c).2+1)
 | [],a,c,_=>by show AN kind v [n] a c=if n.kind≠kind then (a,c) else (if (n.name.toList==v)&&decide (a<0) then (c:Int) else a,c+1);rw[AN,if_neg (by omega)];rfl
 | m::A,a,c,hA=>by
  have hm:=hA m List.mem_cons_self;have hA':∀x∈A,x.kind=0\/x.kind=1:=λx hx=>hA x (List.mem_cons_of_mem _ hx);rw[List.cons_append];rw[show AN kind v (m::(A++[n])) a c=(if m.kind≠kind then AN kind v (A++[n]) a c else AN kind v (A++[n]) (if (m.name.toList==v)&&decide (a<0) then (c:Int) else a) (c+1)) by rw[AN,if_neg (by omega)]];rw[show AN kind v (m::A) a c=(if m.kind≠kind then AN kind v A a c else AN kind v A (if (m.name.toList==v)&&decide (a<0) then (c:Int) else a) (c+1)) by rw[AN,if_neg (by omega)]];by_cases hk:m.kind≠kind
  ·rw[if_pos hk,if_pos hk];exact zk0 kind v n hn A a c hA'
  rw[if_neg hk,if_neg hk];exact zk0 kind v n hn A _ _ hA'
theorem zy4(x:ByteArray)(v:List UInt8):∀(l:List ByteArray) (k:Nat),AG (l++[x]) v k=if 0<=AG l v k then AG l v k else if v==x.toList then ((k+l.length:Nat):Int) else -1
 | [],k=>by simp[AG]
 | a::l,k=>by
  rw[List.cons_append,AG,AG];by_cases h:(v==a.toList)=true
  ·rw[if_pos h,if_pos h,if_pos (by omega)]
  rw[if_neg h,if_neg h,zy4 x v l (k+1)];simp only[List.length_cons,show k+1+l.length=k+(l.length+1) by omega]
theorem zr8(x:ByteArray×Nat)(v:List UInt8):∀(l:List (ByteArray×Nat)) (k:Nat),AF (l++[x]) v k=if 0<=AF l v k then AF l v k else if x.1.toList==v then ((k+l.length:Nat):Int) else -1
 | [],k=>by simp[AF]
 | a::l,k=>by
  rw[List.cons_append,AF,AF];by_cases h:(a.1.toList==v)=true
  ·rw[if_pos h,if_pos h,if_pos (by omega)]
  rw[if_neg h,if_neg h,zr8 x v l (k+1)];simp only[List.length_cons,show k+1+l.length=k+(l.length+1) by omega]
theorem zh0(ns:List Nd)(i:Nat)(h:i<ns.length):ns.take (i+1)=ns.take i++[ns[i]]:=by rw[List.take_succ_eq_append_getElem h]
theorem yl6(ns:List Nd)(i:Nat)(h:i<ns.length):ns.take ns.length=ns.take i++ns[i]::ns.drop (i+1):=by rw[List.take_length,<-List.drop_eq_getElem_cons h,List.take_append_drop]
theorem zO3{n:Nd}(h:EG n=true):0<=n.kind/\n.kind<=15/\wj0 n.kind.toNat<=n.op/\n.op<=wj1 n.kind.toNat/\0<=n.num:=by unfold EG wh4 at h;simp only[Bool.and_eq_true,decide_eq_true_eq]at h;obtain⟨⟨h1,h2⟩,h3,⟨⟨h4,h5⟩,h6⟩,h7⟩:=h;exact⟨h1,h2,h6,h7,h4⟩
theorem wn5{k:Int}(h1:0<=k)(h2:k<=15):k=0\/k=1\/k=2\/k=3\/k=4\/k=5\/k=6\/k=7\/k=8\/k=9\/k=10\/k=11\/k=12\/k=13\/k=14\/k=15:=oM
theorem zo2{n:Nd}(h:EG n=true):DC n=BN n/\DM n=wb6 n/\(n.kind<10->BP n=false/\DG n=false)/\(10<=n.kind->DP n=BP n/\DG n = !BP n)/\(n.kind<=1->BN n=false):=by
 obtain⟨h1,h2,h3,h4,h5⟩:=zO3 h;obtain⟨nd,nk,nm,nu,no,np⟩:=n;simp only at h1 h2 h3 h4 h5;rcases wn5 h1 h2 with rfl | rfl | rfl | rfl | rfl | rfl | rfl | rfl | rfl | rfl | rfl | rfl | rfl | rfl | rfl | rfl
 all_goals
  simp[wj0,wj1]at h3 h4
 case inr.inr.inr.inr.inr.inr.inr.inr.inr.inr.inr.inr.inr.inr.inl =>
  have:no=1\/no=2:=oM
  rcases this with rfl | rfl<;>simp[DC,BN,DM,wb6,DP,BP,DG]
 case inr.inr.inr.inr.inr.inr.inr.inr.inr.inr.inr.inr.inr.inr.inr =>
  have:no=3\/no=4\/no=5\/no=6\/no=7\/no=8\/no=9\/no=10\/no=11\/no=12\/no=13\/no=14\/no=15:=oM
  rcases this with rfl | rfl | rfl | rfl | rfl | rfl | rfl | rfl | rfl | rfl | rfl | rfl | rfl<;>simp[DC,BN,DM,wb6,DP,BP,DG]
 all_goals
  have:no=0:=oM;subst this;simp[DC,BN,DM,wb6,DP,BP,DG]
theorem zr9(h:Shp ns)(i:Nat)(hi:i<ns.length)(hd:2<=ns[i].depth):∀(j:Nat),j<=i->(∀m (hm:m<ns.length),j<=m->m<i->ns[i].depth<=ns[m].depth) ->
  ∃(k:Nat) (hk:k<ns.length),k<i/\BU ns ns[i].depth j=k/\ns[k].depth=ns[i].depth-1/\∀m (hm:m<ns.length),k<m->m<i->ns[i].depth<=ns[m].depth
 | 0,_,hm=>by
  exfalso;have h1:=h.first oM;by_cases e:i=0
  ·subst e;omega
  have:=hm 0 oM (nR_ _) oM;omega
 | j+1,hj,hm=>by
  have hjl:j<ns.length:=oM;rw[BU];have e:ns.getD j nd0=ns[j]:=by simp[List.getD,hjl]
  rw[e];by_cases hlt:ns[j].depth<ns[i].depth
  ·rw[if_pos hlt]
   refine⟨j,hjl,by omega,rfl,?_,λm hml h1 h2=>hm m hml oM h2⟩;have hs:=h.step j oM;by_cases e2:j+1=i
   ·subst e2;omega
   have:=hm (j+1) oM (nR_ _) oM;omega
  rw[if_neg hlt];refine zr9 h i hi hd j oM (λm hml h1 h2=>?_);by_cases e2:m=j
  ·subst e2;omega
  exact hm m hml oM h2
def wb9(ns:List Nd)(i:Nat)(n:Nd):Bool:=wb6 (ns.getD (BU ns n.depth i).toNat nd0)
def wa8(ns:List Nd)(n:Nd)(l:Ls):Int:=if n.kind=0 then l.sc.length else if n.kind=1 then l.ar.length else if BA n=1 then (AQ ns 0 n.name.toList ns.length).1 else if BA n=2 then (AQ ns 1 n.name.toList ns.length).1 else -1
def BE(ns:List Nd)(i:Nat)(n:Nd)(l:Ls):Ls :=
 ⟨if n.kind=0 then l.sc++[n.name] else l.sc,if n.kind=1 then l.ar++[(n.name,n.num)] else l.ar,l.sy++[wa8 ns n l],if BN n then l.si++[(i:Int)] else l.si,l.so++[if BN n then (l.si.length:Int) else -1]⟩
def EC(ns:List Nd)(i:Nat)(n:Nd)(sites:Nat):Int:=CD n (ED ns n i) (AQ ns 0 n.name.toList ns.length).1 (AQ ns 1 n.name.toList ns.length).1 (wb9 ns i n) sites
def AS(ns:List Nd):List Nd->Nat->Ls->Int×Int×Ls
 | [],_,l=>(0,0,l)
 | n::t,i,l=>if EC ns i n l.si.length=0 then AS ns t (i+1) (BE ns i n l) else (EC ns i n l.si.length,i,l)
structure Rel(ns:List Nd)(i:Nat)(r:Rd):Prop where
 sy:r.sy.length=i
 si:r.si.length<=12
 sc:∀v,AQ ns 0 v i=(AG r.sc v 0,r.sc.length)
 ar:∀v,AQ ns 1 v i=(AF r.ar v 0,r.ar.length)
 one:∀v,0<=AG r.sc v 0->AF r.ar v 0<0
 scl:r.sc.length<=8
 arl:r.ar.length<=3
 nu:∀(k:Nat) (hk:k<ns.length),k<i->(∀(j:Nat) (hj:j<ns.length),k<j->j<i->ns[j].depth≠ns[k].depth)->r.nu ns[k].depth.toNat=DM ns[k]
theorem Rel.nu_next(h:Rel ns i r)(hs:Shp ns)(hi:i<ns.length):∀(k:Nat) (hk:k<ns.length),k<i+1->(∀(j:Nat) (hj:j<ns.length),k<j->j<i+1->ns[j].depth≠ns[k].depth)->(λd=>if d=ns[i].depth.toNat then DM ns[i] else r.nu d) ns[k].depth.toNat=DM ns[k]:=by
 intro k hk hki hj;by_cases e:k=i
 ·subst e;simp
 have h1:=hj i hi oM oM;have h2:=hs.dep i hi;have h3:=hs.dep k hk;simp only;rw[if_neg (by omega)];exact h.nu k hk oM (λj hjl a b=>hj j hjl a oM)
theorem zX6(h:Rel ns i r)(hs:Shp ns)(hi:i<ns.length)(hk:ns[i].kind=0\/ns[i].kind=1) :
  (CO r i ns[i]).1=EC ns i ns[i] r.si.length/\((CO r i ns[i]).1=0->Rel ns (i+1) (CO r i ns[i]).2/\BS (CO r i ns[i]).2=BE ns i ns[i] (BS r)):=by
 have hf:=hs.fit i hi;obtain⟨f1,f2,f3,f4,f5⟩:=zo2 hf;have hnum:=(zO3 hf).2.2.2.2;have hsite:BN ns[i]=false:=f5 oM
 have hall:∀x∈ns.take i,x.kind=0\/x.kind=1:=λx hx=>by obtain⟨j,hj,rfl⟩:=List.getElem_of_mem hx;simp at hj;simp only[List.getElem_take];have h1:=hs.decl j i hi oM oM;have h2:=(zO3 (hs.fit j oM)).1;omega
 have hnu:=h.nu_next hs hi;have q0:=h.sc;have q1:=h.ar
 have hdecl:∀(kind:Int) (v:List UInt8),AQ ns kind v (i+1)=if ns[i].kind≠kind then AQ ns kind v i else (if (ns[i].name.toList==v)&&decide ((AQ ns kind v i).1<0) then ((AQ ns kind v i).2:Int) else (AQ ns kind v i).1,(AQ ns kind v i).2+1):=λkind v=>by unfold AQ;rw[zh0 ns i hi];exact zk0 kind v ns[i] hk _ _ _ hall
 have hfault:EC ns i ns[i] r.si.length=BM ns[i].kind ns[i].num (AG r.sc ns[i].name.toList 0) (AF r.ar ns[i].name.toList 0) r.sc.length r.ar.length:=by unfold EC CD;rw[if_pos hk];unfold ED;rw[q0,q1]
 have hexp:EW ns[i]=false:=by unfold EW;exact decide_eq_false oM
 have hsy:=h.sy;have hsi:=h.si;have hone:=h.one;have hscl:=h.scl;have harl:=h.arl;rw[hfault];generalize hn:ns[i]=n at *
 have hput:CO r i n=(if (BT r.sc r.ar n).2.1≠0 then ((BT r.sc r.ar n).2.1,r) else (0,⟨(BT r.sc r.ar n).2.2.1,(BT r.sc r.ar n).2.2.2,r.sy++[(BT r.sc r.ar n).1],r.so++[-1],r.si,λd=>if d=n.depth.toNat then DM n else r.nu d⟩)):=by unfold CO;simp only[show CJ r.sc r.ar n=BT r.sc r.ar n by unfold CJ;rw[if_pos hk]];rw[hexp,f1,hsite];simp
 by_cases hh:wc2 r.sc r.ar n.name.toList=true
 ·have hh':0<=AG r.sc n.name.toList 0\/0<=AF r.ar n.name.toList 0:=by unfold wc2 at hh;simpa using hh
  have e:BT r.sc r.ar n=(0,40,r.sc,r.ar):=by unfold BT;rw[if_pos hh]
  have hV:BM n.kind n.num (AG r.sc n.name.toList 0) (AF r.ar n.name.toList 0) r.sc.length r.ar.length=40:=by
   unfold BM
   repeat' split
   all_goals first | rfl | (exfalso;omega)
  rw[hV,hput,e];exact⟨by simp,λh0=>absurd h0 (by simp)⟩
 have hh':AG r.sc n.name.toList 0<0/\AF r.ar n.name.toList 0<0:=by unfold wc2 at hh;simp at hh;omega
 rcases hk with hk | hk
 ·by_cases h8:r.sc.length=8
  ·have e:BT r.sc r.ar n=(0,44,r.sc,r.ar):=by unfold BT;rw[if_neg hh,if_pos hk,if_pos h8]
   have hV:BM n.kind n.num (AG r.sc n.name.toList 0) (AF r.ar n.name.toList 0) r.sc.length r.ar.length=44:=by
    unfold BM
    repeat' split
    all_goals first | rfl | (exfalso;omega)
   rw[hV,hput,e];exact⟨by simp,λh0=>absurd h0 (by simp)⟩
  have e:BT r.sc r.ar n=((r.sc.length:Int),0,r.sc++[n.name],r.ar):=by unfold BT;rw[if_neg hh,if_pos hk,if_neg h8]
  have hV:BM n.kind n.num (AG r.sc n.name.toList 0) (AF r.ar n.name.toList 0) r.sc.length r.ar.length=0:=by
   unfold BM
   repeat' split
   all_goals first | rfl | (exfalso;omega)
  rw[hV,hput,e];refine⟨by simp,λ_=>?_⟩;simp only[ne_eq,not_true_eq_false,if_false];refine⟨⟨by simp[hsy],hsi,λv=>?_,λv=>?_,λv=>?_,by simp;omega,harl,?_⟩,?_⟩
  ·rw[hdecl,if_neg (by simp[hk]),q0,zy4]
   by_cases hv:0<=AG r.sc v 0
   ·rw[if_pos hv,if_neg (by simp;omega)];simp
   rw[if_neg hv];by_cases hm:n.name.toList=v
   ·simp[hm];omega
   have hm':¬v=n.name.toList:=λe=>hm e.symm;have:=(yC9 r.sc v 0).1;simp[hm,hm'];omega
  ·rw[hdecl,if_pos (by omega),q1]
  ·intro hv
   rw[zy4]at hv;by_cases h1:0<=AG r.sc v 0
   ·exact hone v h1
   rw[if_neg h1]at hv;by_cases hm:v=n.name.toList
   ·rw[hm];exact hh'.2
   simp[hm]at hv
  ·intro k hkl a b
   exact hnu k hkl a b
  unfold BS BE wa8;simp[hk,hsite]
 by_cases hnn:n.num<1\/16<n.num
 ·have e:BT r.sc r.ar n=(0,43,r.sc,r.ar):=by unfold BT;rw[if_neg hh,if_neg (by omega),if_pos hnn]
  have hV:BM n.kind n.num (AG r.sc n.name.toList 0) (AF r.ar n.name.toList 0) r.sc.length r.ar.length=43:=by
   unfold BM
   repeat' split
   all_goals first | rfl | (exfalso;omega)
  rw[hV,hput,e];exact⟨by simp,λh0=>absurd h0 (by simp)⟩
 by_cases h8:r.ar.length=3
 ·have e:BT r.sc r.ar n=(0,45,r.sc,r.ar):=by unfold BT;rw[if_neg hh,if_neg (by omega),if_neg hnn,if_pos h8]
  have hV:BM n.kind n.num (AG r.sc n.name.toList 0) (AF r.ar n.name.toList 0) r.sc.length r.ar.length=45:=by
   unfold BM
   repeat' split
   all_goals first | rfl | (exfalso;omega)
  rw[hV,hput,e];exact⟨by simp,λh0=>absurd h0 (by simp)⟩
 have e:BT r.sc r.ar n=((r.ar.length:Int),0,r.sc,r.ar++[(n.name,n.num.toNat)]):=by unfold BT;rw[if_neg hh,if_neg (by omega),if_neg hnn,if_neg h8]
 have hV:BM n.kind n.num (AG r.sc n.name.toList 0) (AF r.ar n.name.toList 0) r.sc.length r.ar.length=0:=by
  unfold BM
  repeat' split
  all_goals first | rfl | (exfalso;omega)
 rw[hV,hput,e];refine⟨by simp,λ_=>?_⟩;simp only[ne_eq,not_true_eq_false,if_false];refine⟨⟨by simp[hsy],hsi,λv=>?_,λv=>?_,λv=>?_,hscl,by simp;omega,?_⟩,?_⟩
 ·rw[hdecl,if_pos (by omega),q0]
 ·rw[hdecl,if_neg (by simp[hk]),q1,zr8]
  by_cases hv:0<=AF r.ar v 0
  ·rw[if_pos hv,if_neg (by simp;omega)];simp
  rw[if_neg hv];by_cases hm:n.name.toList=v
  ·simp[hm];omega
  have:=(yx2 r.ar v 0).1;simp[hm];omega
 ·intro hv
  rw[zr8];have h1:=hone v hv;rw[if_neg (by omega)];by_cases hm:n.name.toList=v
  ·exfalso
   have hv':0<=AG r.sc v 0:=hv;rw[hm]at hh';omega
  simp[hm]
 ·intro k hkl a b
  exact hnu k hkl a b
 unfold BS BE wa8;have:((n.num.toNat:Nat):Int)=n.num:=oM;simp[hk,hsite,this]
theorem zS3(h:Rel ns i r)(hs:Shp ns)(hi:i<ns.length)(hk:¬(ns[i].kind=0\/ns[i].kind=1)) :
  (CO r i ns[i]).1=EC ns i ns[i] r.si.length/\((CO r i ns[i]).1=0->Rel ns (i+1) (CO r i ns[i]).2/\BS (CO r i ns[i]).2=BE ns i ns[i] (BS r)):=by
 have hf:=hs.fit i hi;obtain⟨f1,f2,f3,f4,f5⟩:=zo2 hf;have hkk:=zO3 hf;have hnu:=h.nu_next hs hi
 have hd1:∀(kind:Int) (v:List UInt8),AQ ns kind v (i+1)=AQ ns kind v i:=λkind v=>by unfold AQ;rw[zh0 ns i hi];exact zh3 kind v ns[i] [] ⟨λe=>hk (.inl e),λe=>hk (.inr e)⟩ _ _ _
 have hd2:∀(kind:Int) (v:List UInt8),AQ ns kind v ns.length=AQ ns kind v i:=λkind v=>by unfold AQ;rw[yl6 ns i hi];exact zh3 kind v ns[i] _ ⟨λe=>hk (.inl e),λe=>hk (.inr e)⟩ _ _ _
 have hwant:10<=ns[i].kind->wb9 ns i ns[i]=r.nu (ns[i].depth-1).toNat:=λhx=>by
  obtain⟨k,hkl,hki,e1,e2,e3⟩:=zr9 hs i hi (hs.expr i hi hx) i (nR_ _) (λm hm a b=>absurd a oM);unfold wb9;rw[e1,Int.toNat_natCast];have e:ns.getD k nd0=ns[k]:=by simp[List.getD,hkl]
  rw[e,<-(zo2 (hs.fit k hkl)).2.1,<-h.nu k hkl hki (λj hj a b=>by have:=e3 j hj a b;omega),e2]
 have hfault:EC ns i ns[i] r.si.length=CD ns[i] (ED ns ns[i] i) (AG r.sc ns[i].name.toList 0) (AF r.ar ns[i].name.toList 0) (wb9 ns i ns[i]) r.si.length:=by unfold EC;rw[hd2,hd2,h.sc,h.ar]
 have hsy:=h.sy;have hsi:=h.si;have hone:=h.one ns[i].name.toList
 have hrel:∀(s:Int) (so:List Int) (si:List Nat),si.length<=12->Rel ns (i+1) ⟨r.sc,r.ar,r.sy++[s],so,si,λd=>if d=ns[i].depth.toNat then DM ns[i] else r.nu d⟩:=λs so si hl =>
  ⟨by simp[hsy],hl,λv=>by rw[hd1];exact h.sc v,λv=>by rw[hd1];exact h.ar v,h.one,h.scl,h.arl,hnu⟩
 have hsym:∀l:Ls,wa8 ns ns[i] l=if BA ns[i]=1 then AG r.sc ns[i].name.toList 0 else if BA ns[i]=2 then AF r.ar ns[i].name.toList 0 else -1:=λl=>by unfold wa8;rw[if_neg (λe=>hk (.inl e)),if_neg (λe=>hk (.inr e)),hd2,hd2,h.sc,h.ar]
 rw[hfault]
 have hnext:∀l:Ls,BE ns i ns[i] l=⟨l.sc,l.ar,l.sy++[wa8 ns ns[i] l],if BN ns[i] then l.si++[(i:Int)] else l.si,l.so++[if BN ns[i] then (l.si.length:Int) else -1]⟩:=λl=>by unfold BE;rw[if_neg (λe=>hk (.inl e)),if_neg (λe=>hk (.inr e))]
 generalize hn:ns[i]=n at *;generalize hw:wb9 ns i n=want at *;obtain⟨s,hs'⟩:∃s,AG r.sc n.name.toList 0=s:=⟨_,rfl⟩;obtain⟨a,ha'⟩:∃a,AF r.ar n.name.toList 0=a:=⟨_,rfl⟩;rw[hs',ha']at hone hsym ⊢;have hhas:wc2 r.sc r.ar n.name.toList=(decide (0<=s)||decide (0<=a)):=by unfold wc2;rw[hs',ha']
 -- what the names tell
 obtain⟨sym,co,hsc,hcs⟩:∃sym co,CJ r.sc r.ar n=(sym,co,r.sc,r.ar)/\((co=0/\sym=(if BA n=1 then s else if BA n=2 then a else -1)/\¬(0<BA n/\s<0/\a<0)/\¬(0<BA n/\((BA n==1) != decide (0<=s))=true))\/(co=41/\(0<BA n/\s<0/\a<0))\/(co=42/\¬(0<BA n/\s<0/\a<0)/\(0<BA n/\((BA n==1) != decide (0<=s))=true))):=by
  unfold CJ;rw[if_neg hk];by_cases k1:n.kind=2\/n.kind=4\/n.kind=12
  ·have e1:BA n=1:=by unfold BA;rw[if_pos k1]
   rw[if_pos k1,hs',e1];unfold DH;rw[hhas];by_cases h1:0<=s
   ·refine⟨s,0,by rw[if_pos h1],.inl ⟨rfl,by simp,by omega,by simp[h1]⟩⟩
   by_cases h2:0<=a
   ·refine⟨0,42,by rw[if_neg h1,if_pos (by simp[h2])],.inr (.inr ⟨rfl,by omega,by simp[h1]⟩)⟩
   refine⟨0,41,by rw[if_neg h1,if_neg (by simp[h1,h2])],.inr (.inl ⟨rfl,by omega⟩)⟩
  rw[if_neg k1];by_cases k2:n.kind=3\/n.kind=13
  ·have e1:BA n=2:=by unfold BA;rw[if_neg k1,if_pos k2]
   rw[if_pos k2,ha',e1];unfold DH;rw[hhas];by_cases h2:0<=a
   ·have h1:s<0:=by
     by_cases h3:0<=s
     ·have:=hone h3;omega
     omega
    refine⟨a,0,by rw[if_pos h2],.inl ⟨rfl,by simp,by omega,by simp;omega⟩⟩
   by_cases h1:0<=s
   ·refine⟨0,42,by rw[if_neg h2,if_pos (by simp[h1])],.inr (.inr ⟨rfl,by omega,by simp[h1]⟩)⟩
   refine⟨0,41,by rw[if_neg h2,if_neg (by simp[h1,h2])],.inr (.inl ⟨rfl,by omega⟩)⟩
  have e1:BA n=0:=by unfold BA;rw[if_neg k1,if_neg k2]
  rw[if_neg k2,e1];exact⟨-1,0,rfl,.inl ⟨rfl,by simp,by omega,by omega⟩⟩
 have hput:CO r i n=(if co≠0 then (co,r) else if EW n&&(DP n != r.nu (n.depth-1).toNat) then (42,r) else if BN n&&r.si.length==12 then (46,r) else (0,⟨r.sc,r.ar,r.sy++[sym],r.so++[if BN n then (r.si.length:Int) else -1],if BN n then r.si++[i] else r.si,λd=>if d=n.depth.toNat then DM n else r.nu d⟩)):=by unfold CO;rw[hsc,f1]
 have hV:∀dec,CD n dec s a want r.si.length=if 0<BA n/\s<0/\a<0 then 41 else if 0<BA n/\((BA n==1) != decide (0<=s))=true then 42 else if (BP n && !want)||(DG n&&want) then 42 else if BN n&&decide (12<=r.si.length) then 46 else 0:=λdec=>by unfold CD;rw[if_neg hk]
 rw[hV,hput];rcases hcs with ⟨rfl,hsymv,n1,n2⟩ | ⟨rfl,n1⟩ | ⟨rfl,n1,n2⟩;rotate_left
 ·rw[if_pos n1];exact⟨by simp,λh0=>absurd h0 (by simp)⟩
 ·rw[if_neg n1,if_pos n2];exact⟨by simp,λh0=>absurd h0 (by simp)⟩
 rw[if_neg n1,if_neg n2]
 have hsort:(EW n&&(DP n != r.nu (n.depth-1).toNat))=((BP n && !want)||(DG n&&want)):=by
  by_cases hx:10<=n.kind
  ·have e1:EW n=true:=by unfold EW;exact decide_eq_true hx
   rw[e1,(f4 hx).1,(f4 hx).2,<-hwant hx]
   cases BP n<;>cases want<;>rfl
  have e1:EW n=false:=by unfold EW;exact decide_eq_false hx
  rw[e1,(f3 (by omega)).1,(f3 (by omega)).2];rfl
 have hsit:(BN n&&r.si.length==12)=(BN n&&decide (12<=r.si.length)):=by
  cases BN n
  ·rfl
  simp only[Bool.true_and];by_cases h12:r.si.length=12
  ·simp[h12]
  have:¬12<=r.si.length:=oM;simp[h12,this]
 rw[hsort,hsit];simp only[ne_eq,not_true_eq_false,if_false];by_cases q1:((BP n && !want)||(DG n&&want))=true
 ·rw[if_pos q1,if_pos q1];exact⟨by simp,λh0=>absurd h0 (by simp)⟩
 rw[if_neg q1,if_neg q1];by_cases q2:(BN n&&decide (12<=r.si.length))=true
 ·rw[if_pos q2,if_pos q2];exact⟨by simp,λh0=>absurd h0 (by simp)⟩
 rw[if_neg q2,if_neg q2];refine⟨rfl,λ_=>⟨hrel _ _ _ ?_,?_⟩⟩
 ·cases hsr:BN n
  ·simpa using hsi
  rw[hsr]at q2;simp at q2;simp;omega
 rw[hnext,hsym];unfold BS;rw[hsymv]
 cases BN n<;>simp
theorem yl7(h:Rel ns i r)(hs:Shp ns)(hi:i<ns.length) :
  (CO r i ns[i]).1=EC ns i ns[i] r.si.length/\((CO r i ns[i]).1=0->Rel ns (i+1) (CO r i ns[i]).2/\BS (CO r i ns[i]).2=BE ns i ns[i] (BS r)):=by
 by_cases hk:ns[i].kind=0\/ns[i].kind=1
 ·exact zX6 h hs hi hk
 exact zS3 h hs hi hk
theorem zX7(hs:Shp ns):∀(m i:Nat) (r:Rd),ns.length-i=m->i<=ns.length->Rel ns i r->AS ns (ns.drop i) i (BS r)=((BL (ns.drop i) r).1,(BL (ns.drop i) r).2.1,BS (BL (ns.drop i) r).2.2)
 | 0,i,r,hm,hi,h=>by rw[List.drop_of_length_le (by omega)];rfl
 | m+1,i,r,hm,hi,h=>by
  have hlt:i<ns.length:=oM;obtain⟨h1,h2⟩:=yl7 h hs hlt;have hsil:(BS r).si.length=r.si.length:=by unfold BS;simp
  rw[List.drop_eq_getElem_cons hlt,AS,BL,hsil,h.sy,<-h1];by_cases h0:(CO r i ns[i]).1=0
  ·rw[if_pos h0,if_pos h0,<-(h2 h0).2]
   exact zX7 hs m (i+1) _ oM oM (h2 h0).1
  rw[if_neg h0,if_neg h0]
theorem yw3(ns:List Nd):Rel ns 0 rd0:=⟨rfl,by simp[rd0],λv=>rfl,λv=>rfl,λv h=>by simp[rd0,AG]at h,by simp[rd0],by simp[rd0],λk hk h=>absurd h oM⟩
def AC(ns:List Nd):Int×Int×Ls:=if (CG ns).1=0 then AS ns ns 0 ⟨[],[],[],[],[]⟩ else ((CG ns).1,(CG ns).2,⟨[],[],[],[],[]⟩)
theorem zw4(ns:List Nd)(hok:∀n∈ns,n.Ok):AC ns=((AR ns rd0).1,(AR ns rd0).2.1,BS (AR ns rd0).2.2):=by
 unfold AC AR;rw[zz0 ns hok];by_cases h:(BD ns).1=0
 ·rw[if_pos h,if_pos h]
  exact zX7 (zP0 h) ns.length 0 rd0 oM oM (yw3 ns)
 rw[if_neg h,if_neg h];rfl
end
section
open Go.RowKit
def TY(k:Nat):Nat:=[78,9,112,3,3,3].getD k 0
def SZ(k:Nat):Nat:=[6,1,2,1,1,1].getD k 0
def AU{α:Type}(f:Nat->α)(k:Nat)(a:α):Nat->α:=λj=>if j=k then a else f j
structure wf0(w:World)(g B:Nat)(v:Nat->Value)(n:Nat->Nat)(x:Nat->List Value):Prop where
 gB:g<B
 lt:B<=w.heap.size
 own:∀k,k<6->w.ownsRow B (TY k) (SZ k) (v k) (n k) (x k)
 apart:∀j k,j<6->k<6->j≠k->(v j).ownBlock=none\/(v j).ownBlock≠(v k).ownBlock
 cell:∀k,k<6->w.cell? (aD g k)=some (v k)
 warm:∀k,w.frozen? (aD g k)=false
def Apt(v:Nat->Value):Prop:=∀j k,j<6->k<6->j≠k->(v j).ownBlock=none\/(v j).ownBlock≠(v k).ownBlock
theorem zw1(h:Below w.heap.size w w'):w.grownBy w' none:=⟨h.os,h.tape,h.output,h.size,λk hk _=>h.block k hk⟩
theorem wf0.below(h:wf0 w g B v n x)(hb:Below w.heap.size w w'):wf0 w' g B v n x:=by
 have hg:g<w.heap.size:=lL_ h.gB h.lt;refine⟨h.gB,Nat.le_trans h.lt hb.size,λk hk=>(h.own k hk).kept (zw1 hb) ?_,h.apart,λk hk=>(hb.cell (p:=⟨g,k,none⟩) hg).trans (h.cell k hk),λk=>(hb.frozen (p:=⟨g,k,none⟩) hg).trans (h.warm k)⟩
 cases (v k).ownBlock with
 | none=>exact .inl rfl
 | some b=>exact .inr sI
theorem zs0(w:World)(g o:Nat)(u:Value):w.grownBy (w.setCell (aD g o) u) (some g) :=
 ⟨rfl,rfl,rfl,by simp,λk _ hk=>Below.heap_setCell w ⟨g,o,none⟩ u k (λe=>hk (by rw[e]))⟩
theorem wf0.grow{k m:Nat}{u:Value}{y:List Value}(h:wf0 w g B v n x)(hk:k<6)(hg:w.grownBy w' (v k).ownBlock)(ho:w'.ownsRow B (TY k) (SZ k) u m y)
  (hw:u.ownBlock=(v k).ownBlock\/u.ownBlock=some w.heap.size):wf0 (w'.setCell (aD g k) u) g B (AU v k u) (AU n k m) (AU x k y):=by
 have hgl:g<w.heap.size:=lL_ h.gB h.lt;have hlow:∀j,j<6->∀b,(v j).ownBlock=some b->B<=b/\b<w.heap.size:=λj hj b e=>(h.own j hj).lt b e;have hub:∀b,u.ownBlock=some b->B<=b:=λb e=>(ho.lt b e).1;have hgb:w'.heap[g]?=w.heap[g]?:=hg.block g hgl (λe=>by have:=(hlow k hk g e.symm).1;have:=h.gB;omega);have hc:∀j,w'.cell? (aD g j)=w.cell? (aD g j):=λj=>World.cell?_of_block (a:=⟨g,j,none⟩) hgb;have hfz:∀j,w'.frozen? (aD g j)=w.frozen? (aD g j):=λj=>World.frozen?_of_block (a:=⟨g,j,none⟩) hgb;have gB:=h.gB;refine⟨h.gB,by have:=hg.size;have:=h.lt;simp;omega,λj hj=>?_,λi j hi hj hij=>?_,λj hj=>?_,λj=>?_⟩
 ·by_cases e:j=k
  ·subst e
   simp only[AU,if_true];refine ho.kept (zs0 w' g _ u) ?_
   cases hq:u.ownBlock with
   | none=>exact .inl rfl
   | some b=>exact .inr (by have:=hub b hq;simp;omega)
  simp only[AU,if_neg e];refine((h.own j hj).kept hg (h.apart j k hj hk e)).kept (zs0 w' g _ u) ?_
  cases hq:(v j).ownBlock with
  | none=>exact .inl rfl
  | some b=>exact .inr (by have:=(hlow j hj b hq).1;simp;omega)
 ·by_cases e1:i=k
  ·subst e1
   have e2:¬j=i:=λe=>hij e.symm;simp only[AU,if_true,if_neg e2];rcases hw with hw | hw
   ·rw[hw];exact h.apart i j hi hj hij
   refine .inr (λe=>?_);rw[hw]at e;have:=(hlow j hj _ e.symm).2;omega
  simp only[AU,if_neg e1];by_cases e2:j=k
  ·subst e2
   simp only[if_true];rcases hw with hw | hw
   ·rw[hw];exact h.apart i j hi hj hij
   cases hq:(v i).ownBlock with
   | none=>exact .inl rfl
   | some b=>exact .inr (λe=>by rw[hw]at e;injection e with e;have:=(hlow i hi b hq).2;omega)
  simp only[if_neg e2];exact h.apart i j hi hj hij
 ·rw[cs w' g k j u (v k) ((hc k).trans (h.cell k hk))]
  by_cases e:j=k
  ·rw[if_pos e];simp[AU,e]
  rw[if_neg e,hc j,h.cell j hj];simp[AU,e]
 simp only[World.frozen?_setCell];rw[hfz j];exact h.warm j
end
section
open Go.RowKit
theorem zc6{P:Program}{fn:Func}{p t u:Tmp}{ty:TypeId}(h:fn.results=#[.cell p ty,.tmp t,.tmp u])(tmps:Array Value)(w:World)(g:Nat)(tt:TypeId)(cs:Array Value)(fr:Nat×Nat)(d:TypeDesc)
  (hp:tmps.getD p undef=pA g 0) (hg:w.heap[g]?=some (.cells cs tt fr))
  (hu:P.underlying ty=some d) (hd:(match d with | .struct _ | .array _ _=>true | _=>false)=true) (hi:(P.info? ty).map (·.size)=some cs.size) :
  (results fn tmps).run P w=.ok (.tuple #[.agg cs,tmps.getD t undef,tmps.getD u undef]) w:=by
 have hp':tmps[p]?.getD undef=pA g 0:=by simpa using hp
 simp[results,h,hp',asAddr,run_loadVar_row w g tt ty cs fr d hg hu hd hi,Sem.run_bind,Result.andThen]
def CC(n:Nd):List Value:=[nI n.depth,nI n.kind,.string n.name,nI n.num,nI n.op,nI n.pos]
def xOf(ns:List Nd)(i:Nat)(l:Ls)(k:Nat):List Value :=
 if k=0 then (ns.take i).flatMap CC else if k=1 then l.sc.map (λs=>.string s) else if k=2 then l.ar.flatMap (λa=>[.string a.1,nI a.2]) else if k=3 then l.sy.map (λs=>nI s) else if k=4 then l.si.map (λs=>nI s) else l.so.map (λs=>nI s)
def nOf(i:Nat)(l:Ls)(k:Nat):Nat:=if k=0 then i else if k=1 then l.sc.length else if k=2 then l.ar.length else if k=3 then l.sy.length else if k=4 then l.si.length else l.so.length
def ls0:Ls:=⟨[],[],[],[],[]⟩
theorem zc9{t:TypeId}(h:w.heap[g]?=some (.cells #[a0,a1,a2,a3,a4,a5] t (0,0)))(b0 b1 b2 b3 b4 b5:Value) :
  ((((((w.setCell (aD g 0) b0).setCell (aD g 1) b1).setCell (aD g 2) b2).setCell (aD g 3) b3).setCell (aD g 4) b4).setCell (aD g 5) b5).heap[g]?=some (.cells #[b0,b1,b2,b3,b4,b5] t (0,0)):=by
 have h0:=heap_setCell_same w g 0 _ t b0 h;have h1:=heap_setCell_same _ g 1 _ t b1 h0;have h2:=heap_setCell_same _ g 2 _ t b2 h1;have h3:=heap_setCell_same _ g 3 _ t b3 h2;have h4:=heap_setCell_same _ g 4 _ t b4 h3;have h5:=heap_setCell_same _ g 5 _ t b5 h4;rw[h5];simp
structure Six(w:World)(g:Nat)(a0 a1 a2 a3 a4 a5:Value):Prop where
 heap:w.heap[g]?=some (.cells #[a0,a1,a2,a3,a4,a5] 33 (0,0))
theorem Six.lt(h:Six w g a0 a1 a2 a3 a4 a5):g<w.heap.size:=(Array.getElem?_eq_some_iff.1 h.heap).1
theorem Six.pc(h:Six w g a0 a1 a2 a3 a4 a5):PC w g a0 a1 a2 a3 a4 a5 :=
 ⟨h.lt,by simp[World.cell?,h.heap],by simp[World.cell?,h.heap],by simp[World.cell?,h.heap],by simp[World.cell?,h.heap],by simp[World.cell?,h.heap],by simp[World.cell?,h.heap]⟩
theorem Six.warm(h:Six w g a0 a1 a2 a3 a4 a5)(k:Nat):w.frozen? (aD g k)=false:=by simp[World.frozen?,h.heap]
theorem Six.kept(h:Six w g a0 a1 a2 a3 a4 a5)(hb:w'.heap[g]?=w.heap[g]?):Six w' g a0 a1 a2 a3 a4 a5:=⟨hb.trans h.heap⟩
theorem Six.below(h:Six w g a0 a1 a2 a3 a4 a5)(hb:Below w.heap.size w w'):Six w' g a0 a1 a2 a3 a4 a5:=h.kept (hb.block g h.lt)
theorem Six.new(w:World)(a0 a1 a2 a3 a4 a5:Value):Six (w.alloc (.cells #[a0,a1,a2,a3,a4,a5] 33)) w.heap.size a0 a1 a2 a3 a4 a5:=⟨heap_alloc_new w _⟩
theorem zc8{w0:World}(h:Below B w0 w)(hg:B<=g)(b0 b1 b2 b3 b4 b5:Value):Below B w0 ((((((w.setCell (aD g 0) b0).setCell (aD g 1) b1).setCell (aD g 2) b2).setCell (aD g 3) b3).setCell (aD g 4) b4).setCell (aD g 5) b5) :=
 (((((h.setCell (p:=⟨g,0,none⟩) hg b0).setCell (p:=⟨g,1,none⟩) hg b1).setCell (p:=⟨g,2,none⟩) hg b2).setCell (p:=⟨g,3,none⟩) hg b3).setCell (p:=⟨g,4,none⟩) hg b4).setCell (p:=⟨g,5,none⟩) hg b5
structure PS(w W:World)(g q:Nat)(nd:Nd)(v:Nat->Value)(n:Nat->Nat)(x:Nat->List Value):Prop where
 hb:Below w.heap.size w W
 six:Six W w.heap.size (sZ) (sZ) (sZ) (sZ) (sZ) (sZ)
 own:wf0 W g (g+1) v n x
 nd:NdC W q nd
 lo:w.heap.size<g
 gq:g<q
 aq:∀k,k<6->(v k).ownBlock≠some q
theorem PS.below{W':World}(h:PS w W g q nd v n x)(hb:Below W.heap.size W W'):PS w W' g q nd v n x :=
 ⟨h.hb.trans (hb.mono h.hb.size),h.six.below hb,h.own.below hb,h.nd.below hb,h.lo,h.gq,h.aq⟩
structure Mid(W:World)(g q:Nat)(nd:Nd)(v:Nat->Value):Prop where
 glt:g<W.heap.size
 qlt:q<W.heap.size
 gq:¬g=q
 qg:¬q=g
 c0:W.cell? (aD g 0)=some (v 0)
 c1:W.cell? (aD g 1)=some (v 1)
 c2:W.cell? (aD g 2)=some (v 2)
 c3:W.cell? (aD g 3)=some (v 3)
 c4:W.cell? (aD g 4)=some (v 4)
 c5:W.cell? (aD g 5)=some (v 5)
 warm:∀k,W.frozen? (aD g k)=false
 d0:W.cell? (aD q 0)=some (nI nd.depth)
 d1:W.cell? (aD q 1)=some (nI nd.kind)
 d2:W.cell? (aD q 2)=some (.string nd.name)
 d3:W.cell? (aD q 3)=some (nI nd.num)
 d4:W.cell? (aD q 4)=some (nI nd.op)
 d5:W.cell? (aD q 5)=some (nI nd.pos)
theorem PS.mid(h:PS w W g q nd v n x):Mid W g q nd v:=by have:=h.gq;exact⟨lL_ h.own.gB h.own.lt,h.nd.lt,by omega,by omega,h.own.cell 0 oM,h.own.cell 1 oM,h.own.cell 2 oM,h.own.cell 3 oM,h.own.cell 4 oM,h.own.cell 5 oM,h.own.warm,h.nd.c0,h.nd.c1,h.nd.c2,h.nd.c3,h.nd.c4,h.nd.c5⟩
theorem PS.app{W2:World}{k m:Nat}{u:Value}{y:List Value}(h:PS w W g q nd v n x)(hk:k<6)(hg:W.grownBy W2 (v k).ownBlock)(ho:W2.ownsRow (g+1) (TY k) (SZ k) u m y)
  (hw:u.ownBlock=(v k).ownBlock\/u.ownBlock=some W.heap.size):Mid W2 g q nd v/\PS w (W2.setCell (aD g k) u) g q nd (AU v k u) (AU n k m) (AU x k y):=by
 have hgl:g<W.heap.size:=lL_ h.own.gB h.own.lt;have hql:=h.nd.lt;have hz:=hg.size;have hlow:∀b,(v k).ownBlock=some b->g+1<=b:=λb e=>((h.own.own k hk).lt b e).1;have hbg:W2.heap[g]?=W.heap[g]?:=hg.block g hgl (λe=>by have:=hlow g e.symm;omega);have hbq:W2.heap[q]?=W.heap[q]?:=hg.block q hql (λe=>h.aq k hk e.symm);have hcg:∀j,W2.cell? (aD g j)=W.cell? (aD g j):=λj=>World.cell?_of_block (a:=⟨g,j,none⟩) hbg;have hfg:∀j,W2.frozen? (aD g j)=W.frozen? (aD g j):=λj=>World.frozen?_of_block (a:=⟨g,j,none⟩) hbg;have hcq:∀j,W2.cell? (aD q j)=W.cell? (aD q j):=λj=>World.cell?_of_block (a:=⟨q,j,none⟩) hbq;have M:=h.mid;have hmid:Mid W2 g q nd v:=⟨by omega,by omega,M.gq,M.qg,(hcg 0).trans M.c0,(hcg 1).trans M.c1,(hcg 2).trans M.c2,(hcg 3).trans M.c3,(hcg 4).trans M.c4,(hcg 5).trans M.c5,λj=>(hfg j).trans (M.warm j),(hcq 0).trans M.d0,(hcq 1).trans M.d1,(hcq 2).trans M.d2,(hcq 3).trans M.d3,(hcq 4).trans M.d4,(hcq 5).trans M.d5⟩;have hlo:=h.lo;have hgq:=h.gq;have hq2:(W2.setCell (aD g k) u).heap[q]?=W2.heap[q]?:=Below.heap_setCell W2 ⟨g,k,none⟩ u q M.qg;have hx2:(W2.setCell (aD g k) u).heap[w.heap.size]?=W.heap[w.heap.size]?:=(Below.heap_setCell W2 ⟨g,k,none⟩ u _ (show w.heap.size≠g by omega)).trans (hg.block _ h.six.lt (λe=>by have:=hlow _ e.symm;omega));have hcq2:∀j,(W2.setCell (aD g k) u).cell? (aD q j)=W.cell? (aD q j):=λj=>(World.cell?_of_block (a:=⟨q,j,none⟩) hq2).trans (hcq j);refine⟨hmid,⟨(h.hb.grown hg h.hb.size (λb e=>by have:=hlow b e;omega)).setCell (p:=⟨g,k,none⟩) (by show w.heap.size<=g;omega) u,h.six.kept hx2,h.own.grow hk hg ho hw,⟨by simp;omega,(hcq2 0).trans M.d0,(hcq2 1).trans M.d1,(hcq2 2).trans M.d2,(hcq2 3).trans M.d3,(hcq2 4).trans M.d4,(hcq2 5).trans M.d5⟩,h.lo,h.gq,λj hj=>?_⟩⟩;by_cases e:j=k
 ·subst e
  simp only[AU,if_true];rcases hw with hw | hw
  ·rw[hw];exact h.aq j hj
  rw[hw];simp;omega
 simp only[AU,if_neg e];exact h.aq j hj
theorem wf0.congr{v':Nat->Value}{n':Nat->Nat}{x':Nat->List Value}(h:wf0 w g B v n x)(hv:∀k,k<6->v k=v' k)(hn:∀k,k<6->n k=n' k)(hx:∀k,k<6->x k=x' k):wf0 w g B v' n' x' :=
 ⟨h.gB,h.lt,λk hk=>by rw[<-hv k hk,<-hn k hk,<-hx k hk];exact h.own k hk,λj k hj hk hjk=>by rw[<-hv j hj,<-hv k hk];exact h.apart j k hj hk hjk,λk hk=>by rw[<-hv k hk];exact h.cell k hk,h.warm⟩
end
end Go.Proofs.YtpongdpnbclchaaGreatDoor
