import Derived.Test.YtpongdpnbclchaaGreatDoorKCrfields
set_option maxHeartbeats 8000000
set_option linter.all false
namespace Go.Proofs.YtpongdpnbclchaaGreatDoor
variable{B b k:Nat}{S st:List AW}{g:Bool}{v:Value}{w w1:World}
section
open Go.RowKit
def DN(st:List AW)(g:Bool)(d:Int)(k:Nat):Bool :=
 decide (0<=d-1)&&decide (d-1<=st.length) && !CA (st.drop (d-1).toNat)&&CR st g (d-1).toNat (AO k)
theorem yD0(b:Nat)(d num op a:Int)(k:Nat)(s:ByteArray)(st:List AW)(g:Bool)(w:World)(hd1 : -9223372036854775808<=d)(hd2:d<=9223372036854775807)(hl24:st.length<=24)(hk16:k<16)
  (hk:∀h∈st,h.1<16/\(h.1=9\/h.2<=3)) (hR:BF w) (hP:CN w b st g) (hno:DN st g d k=false) :
  Calls Tryz.prog 141 #[pA b 0,.agg #[nI d,nI k,.string s,nI num,nI op,nI a]] w λe w'=>e=.returned (.bool false)/\Below w.heap.size w w':=by
 have hlt:=hP.lt;have c0:=hP.depth;have hne:¬b=w.heap.size:=oM;have hl1:(st.length:Int)<=24:=oM;by_cases h0:d = -9223372036854775808
 ·subst h0
  clear hR hP hno hk;go_enter Tryz.func141,Tryz.ntmps141;have hw:wrap64 (-9223372036854775809)=9223372036854775807:=by unfold wrap64;omega
  have h9:(st.length:Int)<9223372036854775807:=oM;go_wp2;go_ret;exact⟨rfl,(Below.refl _ _).alloc (nR_ _) _⟩
 have h0' : -9223372036854775808<=d-1:=oM;by_cases h1:d-1<0
 ·clear hR hP hno hk
  go_enter Tryz.func141,Tryz.ntmps141;go_wp2_with fail;go_ret;exact⟨rfl,(Below.refl _ _).alloc (nR_ _) _⟩
 have h1':0<=d-1:=oM;by_cases h2:(st.length:Int)<d-1
 ·clear hR hP hno hk
  go_enter Tryz.func141,Tryz.ntmps141;go_wp2_with fail;go_ret;exact⟨rfl,(Below.refl _ _).alloc (nR_ _) _⟩
 obtain⟨n,hn⟩:=Int.eq_ofNat_of_zero_le h1';have hd':d=n+1:=oM;subst hd';have hn24:n<=st.length:=oM;have e1:((n:Int)+1-1)=n:=oM;have hB:Below w.heap.size w (w.alloc (.cells #[nI ((n:Int)+1),nI k,.string s,nI num,nI op,nI a] 78)):=(Below.refl _ _).alloc (nR_ _) _;have c9w:=hR.sort k hk16;have hne0:¬0=w.heap.size:=by have:=hR.lt;omega
 have hne0':¬w.heap.size=0:=by have:=hR.lt;omega
 have HR1:Hi _:=hR.below hB;have HP1:Hi _:=hP.below hB;have HB:Hi _:=hB;have HK:Hi _:=hk;have h2':(n:Int)<=st.length:=oM;unfold DN at hno;rw[e1,Int.toNat_natCast,decide_eq_true (by omega:(0:Int)<=n),decide_eq_true h2']at hno;have HNO:Hi _:=hno;clear hno hB hR hP hk h1 h2 hn h0 h0' h1';have dn0:decide ((n:Int)<0)=false:=dF_ oM;have dln:decide (st.length<n)=false:=dF_ oM;go_enter Tryz.func141,Tryz.ntmps141;go_wp2_with fail;refine mq (zj3 b n st g _ hn24 oM (λh hm=>(HK.o h hm).1) HR1.o HP1.o) λw1 hb1=>?_;obtain⟨hc1,hf1⟩:=wa6 hb1;have hcn:=λo=>hc1 w.heap.size o sI;have hcb:=λo=>hc1 b o (by simp;omega);have hfn:=λo=>hf1 w.heap.size o sI;have hfb:=λo=>hf1 b o (by simp;omega);clear hc1 hf1;have HR2:Hi _:=HR1.o.below hb1;have HP2:Hi _:=HP1.o.below hb1;have hz1:w.heap.size+1<=w1.heap.size:=by have:=hb1.size;simp at this;omega
 have HB2:Hi (Below w.heap.size w w1):=HB.o.trans (hb1.mono sI);clear hb1;have HNO':=HNO.o;cases hw:CA (st.drop n)
 ·rw[hw]at HNO'
  replace HNO':CR st g n (AO k)=false:=by simpa using HNO'
  have c9:=HR2.o.sort k hk16;clear hw HNO;go_wp2_with fail;refine mq (zs6 b n _ st g _ hn24 oM HK.o HR2.o HP2.o) λw2 hb2=>?_;rw[HNO'];clear HNO';go_wp2_with fail;go_ret;exact⟨rfl,HB2.o.trans (hb2.mono oM)⟩
 clear hw HNO' HNO;go_wp2_with fail;go_ret;exact⟨rfl,HB2.o⟩
structure AD(b:Nat)(w w':World):Prop where
 low:Below 0 w w'
 block:∀q,q≠b->q<w.heap.size->w'.heap[q]?=w.heap[q]?
theorem AD.of{w':World}(h:Below w.heap.size w w'):AD b w w':=⟨h.mono (zL_ _),λq _ hq=>h.block q hq⟩
theorem AD.set(h:AD b w w1)(o:Nat)(v:Value):AD b w (w1.setCell (aD b o) v) :=
 ⟨h.low.setCell (zL_ _) v,λq hq hl=>(Below.heap_setCell w1 ⟨b,o,none⟩ v q hq).trans (h.block q hq hl)⟩
theorem AD.drew(h:AD b w w1):AD b w w1.drew:=⟨h.low.drew,h.block⟩
theorem AD.cell(h:AD b w w1){q o:Nat}(hq:q≠b)(hl:q<w.heap.size):w1.cell? (aD q o)=w.cell? (aD q o):=World.cell?_of_block (w:=w) (h.block q hq hl)
theorem AD.below{w0:World}(h0:Below B w0 w)(h:AD b w w1)(hb:B<=b)(hz:B<=w.heap.size):Below B w0 w1 :=
 h0.trans ⟨h.low.os,h.low.tape,h.low.output,h.low.size,λk hk=>h.block k oM oM⟩
theorem cs(w:World)(b o o':Nat)(v u:Value)(h:w.cell? (aD b o)=some u):(w.setCell (aD b o) v).cell? ⟨b,o',none⟩=if o'=o then some v else w.cell? ⟨b,o',none⟩:=by
 by_cases e:o'=o
 ·subst e;rw[if_pos rfl];exact World.cell?_setCell_same _ _ _ h
 rw[if_neg e];refine World.cell?_setCell_other _ _ _ _ (λhh=>e ?_)
 injection hh with _ h2 _;exact h2.symm
def AP(st:List AW)(n k:Nat):List AW :=
 if n=0 then [(k,0)] else st.take (n-1)++[((st.getD (n-1) (0,0)).1,(st.getD (n-1) (0,0)).2+1),(k,0)]
theorem cs4{o1 o2 o3 o4:Nat}{u1 u2 u3 u4:Value}(v1 v2 v3 v4:Value)(r1:w.cell? (aD b o1)=some u1)(r2:w.cell? (aD b o2)=some u2)(r3:w.cell? (aD b o3)=some u3)(r4:w.cell? (aD b o4)=some u4)(o':Nat) :
  ((((w.setCell (aD b o1) v1).setCell (aD b o2) v2).setCell (aD b o3) v3).setCell (aD b o4) v4).cell? ⟨b,o',none⟩ =
   if o'=o4 then some v4 else if o'=o3 then some v3 else if o'=o2 then some v2 else if o'=o1 then some v1 else w.cell? ⟨b,o',none⟩:=by
 obtain⟨x2,s2⟩:=cell?_setCell_some (p:=⟨b,o1,none⟩) (x:=v1) r2;obtain⟨x3,s3⟩:=cell?_setCell_some (p:=⟨b,o1,none⟩) (x:=v1) r3;obtain⟨x4,s4⟩:=cell?_setCell_some (p:=⟨b,o1,none⟩) (x:=v1) r4;obtain⟨y3,t3⟩:=cell?_setCell_some (p:=⟨b,o2,none⟩) (x:=v2) s3;obtain⟨y4,t4⟩:=cell?_setCell_some (p:=⟨b,o2,none⟩) (x:=v2) s4;obtain⟨z4,q4⟩:=cell?_setCell_some (p:=⟨b,o3,none⟩) (x:=v3) t4;rw[cs _ b o4 o' v4 _ q4,cs _ b o3 o' v3 _ t3,cs _ b o2 o' v2 _ s2,cs _ b o1 o' v1 _ r1]
theorem ya2(st:List AW)(m k:Nat)(hm:m<st.length):(AP st (m+1) k).length=m+2:=by unfold AP;rw[if_neg (by omega),List.length_append,List.length_take];simp;omega
theorem wl6(st:List AW)(m k i:Nat)(hm:m<st.length)(hi:i<m)(h:i<(AP st (m+1) k).length):(AP st (m+1) k)[i]=st[i]:=by unfold AP at *;simp only[if_neg (by omega:¬m+1=0),Nat.add_sub_cancel];rw[List.getElem_append_left (by rw[List.length_take];omega),List.getElem_take]
theorem ya3(st:List AW)(m k:Nat)(hm:m<st.length)(h:m<(AP st (m+1) k).length):(AP st (m+1) k)[m]=(st[m].1,st[m].2+1):=by unfold AP at *;simp only[if_neg (by omega:¬m+1=0),Nat.add_sub_cancel];rw[List.getElem_append_right (by rw[List.length_take];omega)];simp[List.length_take,Nat.min_eq_left (Nat.le_of_lt hm),List.getElem?_eq_getElem hm]
theorem ya4(st:List AW)(m k:Nat)(hm:m<st.length)(h:m+1<(AP st (m+1) k).length):(AP st (m+1) k)[m+1]=(k,0):=by unfold AP at *;simp only[if_neg (by omega:¬m+1=0),Nat.add_sub_cancel];rw[List.getElem_append_right (by rw[List.length_take];omega)];simp[List.length_take,Nat.min_eq_left (Nat.le_of_lt hm)]
theorem ym8(hP:CN w b st g)(m k:Nat)(hm:m<st.length)(hl:st.length<=24) :
  CN ((((w.setCell ⟨b,m*2+1,none⟩ (nI ((st[m].2:Int)+1))).setCell ⟨b,(m+1)*2,none⟩ (nI k)).setCell ⟨b,(m+1)*2+1,none⟩ (nI 0)).setCell (aD b 50) (nI ((m:Int)+1+1))) b (AP st (m+1) k) g:=by
 obtain⟨v0,r0⟩:=hP.room (m*2+1) oM;obtain⟨v1,r1⟩:=hP.room ((m+1)*2) oM;obtain⟨v2,r2⟩:=hP.room ((m+1)*2+1) oM;obtain⟨v3,r3⟩:=hP.room 50 oM;have key:=cs4 (nI ((st[m].2:Int)+1)) (nI k) (nI 0) (nI ((m:Int)+1+1)) r0 r1 r2 r3;have hlen:=ya2 st m k hm;constructor
 ·simpa using hP.lt
 ·omega
 ·rw[key,if_pos rfl,hlen];congr 2
 ·rw[key,if_neg (by omega),if_neg (by omega),if_neg (by omega),if_neg (by omega)];exact hP.begun
 ·intro i hi
  rcases(show i<m\/i=m\/i=m+1 by omega) with h | rfl | rfl
  ·rw[key,if_neg (by omega),if_neg (by omega),if_neg (by omega),if_neg (by omega),wl6 st m k i hm h hi];exact hP.kind i (by omega)
  ·rw[key,if_neg (by omega),if_neg (by omega),if_neg (by omega),if_neg (by omega),ya3 st i k hm hi];exact hP.kind i hm
  rw[key,if_neg (by omega),if_neg (by omega),if_pos rfl,ya4 st m k hm hi]
 ·intro i hi
  rcases(show i<m\/i=m\/i=m+1 by omega) with h | rfl | rfl
  ·rw[key,if_neg (by omega),if_neg (by omega),if_neg (by omega),if_neg (by omega),wl6 st m k i hm h hi];exact hP.held i (by omega)
  ·rw[key,if_neg (by omega),if_neg (by omega),if_neg (by omega),if_pos rfl,ya3 st i k hm hi];congr 2
  rw[key,if_neg (by omega),if_pos rfl,ya4 st m k hm hi];rfl
 ·intro i hi
  rw[key]
  repeat' split
  all_goals first | exact⟨_,rfl⟩ | exact hP.room i hi
 intro i;simpa using hP.warm i
theorem ym9{g':Bool}(hP:CN w b st g)(k:Nat) :
  CN ((((w.setCell (aD b 51) (.bool g')).setCell (aD b 0) (nI k)).setCell (aD b 1) (nI 0)).setCell (aD b 50) (nI 1)) b (AP st 0 k) g':=by
 obtain⟨v0,r0⟩:=hP.room 51 oM;obtain⟨v1,r1⟩:=hP.room 0 oM;obtain⟨v2,r2⟩:=hP.room 1 oM;obtain⟨v3,r3⟩:=hP.room 50 oM;have key:=cs4 (.bool g') (nI k) (nI 0) (nI 1) r0 r1 r2 r3;constructor
 ·simpa using hP.lt
 ·simp[AP]
 ·rw[key,if_pos rfl];rfl
 ·rw[key,if_neg (by omega),if_neg (by omega),if_neg (by omega),if_pos rfl]
 ·intro i hi
  have e:i=0:=by simp[AP]at hi;omega
  subst e;rw[key,if_neg (by omega),if_neg (by omega),if_pos rfl];rfl
 ·intro i hi
  have e:i=0:=by simp[AP]at hi;omega
  subst e;rw[key,if_neg (by omega),if_pos rfl];rfl
 ·intro i hi
  rw[key]
  repeat' split
  all_goals first | exact⟨_,rfl⟩ | exact hP.room i hi
 intro i;simpa using hP.warm i
theorem yx5(b n:Nat)(num op a:Int)(k:Nat)(s:ByteArray)(st:List AW)(g:Bool)(w:World)(hl24:st.length<=24)(hk16:k<16)(hn24:n<=st.length)
  (hk:∀h∈st,h.1<16/\(h.1=9\/h.2<=3)) (hbd:∀h∈st,h.2<=400) (hR:BF w) (hP:CN w b st g) (hw:CA (st.drop n)=false) (ht:CR st g n (AO k)=true) (hn0:0<n) :
  Calls Tryz.prog 141 #[pA b 0,.agg #[nI ((n:Int)+1),nI k,.string s,nI num,nI op,nI a]] w λe w'=>e=.returned (.bool true)/\AD b w w'/\CN w' b (AP st n k) g:=by
 have hlt:=hP.lt;have c0:=hP.depth;have hne:¬b=w.heap.size:=oM;have hl1:(st.length:Int)<=24:=oM;have hB:Below w.heap.size w (w.alloc (.cells #[nI ((n:Int)+1),nI k,.string s,nI num,nI op,nI a] 78)):=(Below.refl _ _).alloc (nR_ _) _;have c9w:=hR.sort k hk16;have hne0:¬0=w.heap.size:=by have:=hR.lt;omega
 have hne0':¬w.heap.size=0:=by have:=hR.lt;omega
 have HR1:Hi _:=hR.below hB;have HP1:Hi _:=hP.below hB;have HB:Hi _:=hB;have HK:Hi _:=hk;have HD:Hi _:=hbd;have HW:Hi _:=hw;have HT:Hi _:=ht;have h2':(n:Int)<=st.length:=oM;clear hB hR hP hk hw ht hbd;have dn0:decide ((n:Int)<0)=false:=dF_ oM;have dln:decide (st.length<n)=false:=dF_ oM;go_enter Tryz.func141,Tryz.ntmps141;go_wp2_with fail;refine mq (zj3 b n st g _ hn24 oM (λh hm=>(HK.o h hm).1) HR1.o HP1.o) λw1 hb1=>?_;rw[HW.o];obtain⟨hc1,hf1⟩:=wa6 hb1;have hcn:=λo=>hc1 w.heap.size o sI;have hcb:=λo=>hc1 b o (by simp;omega);have hfn:=λo=>hf1 w.heap.size o sI;have hfb:=λo=>hf1 b o (by simp;omega);clear hc1 hf1;have HR2:Hi _:=HR1.o.below hb1;have HP2:Hi _:=HP1.o.below hb1;have hz1:w.heap.size+1<=w1.heap.size:=by have:=hb1.size;simp at this;omega
 have HB2:Hi (Below w.heap.size w w1):=HB.o.trans (hb1.mono sI);have c9:=HR2.o.sort k hk16;clear hb1;go_wp2_with fail;refine mq (zs6 b n _ st g _ hn24 oM HK.o HR2.o HP2.o) λw2 hb2=>?_;rw[HT.o];have HB3:Hi (Below w.heap.size w w2):=HB2.o.trans (hb2.mono oM);have HP3:Hi _:=HP2.o.below hb2;have HR3:Hi _:=HR2.o.below hb2;have d0:w2.cell? (aD w.heap.size 0)=some (nI ((n:Int)+1)):=by rw[(wa6 hb2).1 _ _ (by omega),hcn _];simp[go_sem]
 have d1:w2.cell? (aD w.heap.size 1)=some (nI k):=by rw[(wa6 hb2).1 _ _ (by omega),hcn _];simp[go_sem]
 have hz2:w1.heap.size<=w2.heap.size:=hb2.size;clear hb2 hcn hcb hfn hfb c9;have hi:n-1<st.length:=oM;have e1:=HP3.o.held (n-1) hi;have hm1:st[n-1].2<=400:=HD.o _ (List.getElem_mem _);have hfz:=HP3.o.warm;obtain⟨m,rfl⟩:∃m,n=m+1:=⟨n-1,by omega⟩;simp only[Nat.add_sub_cancel]at e1 hm1;have HF:Hi _:=ym8 HP3.o m k oM hl24;generalize st[m].2=hd at *;go_wp2_with fail
 go_region
 obtain⟨v0,g0⟩:=HP3.o.room ((m+1)*2) oM;obtain⟨v1,g1⟩:=HP3.o.room ((m+1)*2+1) oM;obtain⟨v2,g2⟩:=HP3.o.room 50 oM;have nbw:¬b=w.heap.size:=hne;have nwb:¬w.heap.size=b:=oM;have o1:¬m*2+1=(m+1)*2:=oM;go_wp2_with fail
 go_region
 go_wp2_with fail;go_ret;refine⟨rfl,?_,?_⟩
 ·refine AD.drew (AD.drew (AD.set (AD.set (AD.set (AD.set (AD.of HB3.o) _ _) _ _) _ _) _ _))
 exact HF.o.below ((Below.refl _ _).drew.drew)
theorem yx6(b:Nat)(num op a:Int)(k:Nat)(s:ByteArray)(st:List AW)(g:Bool)(w:World)(hl24:st.length<=24)(hk16:k<16)
  (hk:∀h∈st,h.1<16/\(h.1=9\/h.2<=3)) (hR:BF w) (hP:CN w b st g) (hw:CA st=false) (ht:CR st g 0 (AO k)=true) :
  Calls Tryz.prog 141 #[pA b 0,.agg #[nI 1,nI k,.string s,nI num,nI op,nI a]] w λe w'=>e=.returned (.bool true)/\AD b w w'/\CN w' b (AP st 0 k) (g||AO k==2):=by
 have hlt:=hP.lt;have c0:=hP.depth;have hne:¬b=w.heap.size:=oM;have hl1:(st.length:Int)<=24:=oM;have hB:Below w.heap.size w (w.alloc (.cells #[nI 1,nI k,.string s,nI num,nI op,nI a] 78)):=(Below.refl _ _).alloc (nR_ _) _;have c9w:=hR.sort k hk16;have hne0:¬0=w.heap.size:=by have:=hR.lt;omega
 have hne0':¬w.heap.size=0:=by have:=hR.lt;omega
 have HR1:Hi _:=hR.below hB;have HP1:Hi _:=hP.below hB;have HB:Hi _:=hB;have HK:Hi _:=hk;have HW:Hi _:=hw;have HT:Hi _:=ht;have h2':(0:Int)<=st.length:=oM;clear hB hR hP hk hw ht;go_enter Tryz.func141,Tryz.ntmps141;go_wp2_with fail;refine mq (zj3 b 0 st g _ oM oM (λh hm=>(HK.o h hm).1) HR1.o HP1.o) λw1 hb1=>?_;rw[List.drop_zero,HW.o];obtain⟨hc1,hf1⟩:=wa6 hb1;have hcn:=λo=>hc1 w.heap.size o sI;have hcb:=λo=>hc1 b o (by simp;omega);have hfn:=λo=>hf1 w.heap.size o sI;have hfb:=λo=>hf1 b o (by simp;omega);clear hc1 hf1;have HR2:Hi _:=HR1.o.below hb1;have HP2:Hi _:=HP1.o.below hb1;have hz1:w.heap.size+1<=w1.heap.size:=by have:=hb1.size;simp at this;omega
 have HB2:Hi (Below w.heap.size w w1):=HB.o.trans (hb1.mono sI);have c9:=HR2.o.sort k hk16;clear hb1;go_wp2_with fail;refine mq (zs6 b 0 _ st g _ oM oM HK.o HR2.o HP2.o) λw2 hb2=>?_;rw[HT.o];have HB3:Hi (Below w.heap.size w w2):=HB2.o.trans (hb2.mono oM);have HP3:Hi _:=HP2.o.below hb2;have HR3:Hi _:=HR2.o.below hb2;have d0:w2.cell? (aD w.heap.size 0)=some (nI 1):=by rw[(wa6 hb2).1 _ _ (by omega),hcn _];simp[go_sem]
 have d1:w2.cell? (aD w.heap.size 1)=some (nI k):=by rw[(wa6 hb2).1 _ _ (by omega),hcn _];simp[go_sem]
 have hz2:w1.heap.size<=w2.heap.size:=hb2.size;clear hb2 hcn hcb hfn hfb c9;have hfz:=HP3.o.warm;have e1:=HP3.o.begun;have e2:=HR3.o.sort k hk16;obtain⟨v0,g0⟩:=HP3.o.room 0 oM;obtain⟨v1,g1⟩:=HP3.o.room 1 oM;obtain⟨v2,g2⟩:=HP3.o.room 50 oM;have nwb:¬w.heap.size=b:=oM;have HPT:Hi (∀g',CN ((((w2.setCell (aD b 51) (.bool g')).setCell (aD b 0) (nI k)).setCell (aD b 1) (nI 0)).setCell (aD b 50) (nI 1)) b (AP st 0 k) g'):=λg'=>ym9 HP3.o k;have dl0:decide ((st.length:Int)<0)=false:=dF_ oM;cases g
 ·cases hs:(AO k==2)
  all_goals
   go_wp2_with fail
   go_region
   go_wp2_with fail;go_ret;refine⟨rfl,AD.drew (AD.set (AD.set (AD.set (AD.set (AD.of HB3.o) _ _) _ _) _ _) _ _),?_⟩;rw[Bool.false_or,hs];exact(HPT.o _).below ((Below.refl _ _).drew)
 go_wp2_with fail
 go_region
 go_wp2_with fail;go_ret;refine⟨rfl,AD.drew (AD.set (AD.set (AD.set (AD.set (AD.of HB3.o) _ _) _ _) _ _) _ _),?_⟩;exact(HPT.o _).below ((Below.refl _ _).drew)
end
section
open Go.RowKit
structure Nd.Ok(n:Nd):Prop where
 name:n.name.size<=maxLen
 lo : -9223372036854775808<=n.depth
 hi:n.depth<=9223372036854775807
 num:n.num<=9223372036854775807
structure AV(w:World)(b o:Nat)(ns:List Nd):Prop where
 lt:b<w.heap.size
 c0:∀(i:Nat) (h:i<ns.length),w.cell? ⟨b,o+i*6,none⟩=some (nI ns[i].depth)
 c1:∀(i:Nat) (h:i<ns.length),w.cell? ⟨b,o+i*6+1,none⟩=some (nI ns[i].kind)
 c2:∀(i:Nat) (h:i<ns.length),w.cell? ⟨b,o+i*6+2,none⟩=some (.string ns[i].name)
 c3:∀(i:Nat) (h:i<ns.length),w.cell? ⟨b,o+i*6+3,none⟩=some (nI ns[i].num)
 c4:∀(i:Nat) (h:i<ns.length),w.cell? ⟨b,o+i*6+4,none⟩=some (nI ns[i].op)
 c5:∀(i:Nat) (h:i<ns.length),w.cell? ⟨b,o+i*6+5,none⟩=some (nI ns[i].pos)
theorem AV.below{o:Nat}{ns:List Nd}(h:AV w b o ns)(hb:Below w.heap.size w w1):AV w1 b o ns:=by have hc:∀o,w1.cell? (aD b o)=w.cell? (aD b o):=λo=>hb.cell (p:=⟨b,o,none⟩) h.lt;have hz:=hb.size;have:=h.lt;exact⟨by omega,λi hi=>by rw[hc];exact h.c0 i hi,λi hi=>by rw[hc];exact h.c1 i hi,λi hi=>by rw[hc];exact h.c2 i hi,λi hi=>by rw[hc];exact h.c3 i hi,λi hi=>by rw[hc];exact h.c4 i hi,λi hi=>by rw[hc];exact h.c5 i hi⟩
def EG(n:Nd):Bool:=decide (0<=n.kind)&&decide (n.kind<=15)&&wh4 n.kind.toNat n.name.toList n.num n.op
def DQ(g:Bool)(n:Nd):Bool:=if n.depth=1 then g||AO n.kind.toNat==2 else g
def EH:List Nd->Nat->List AW->Bool->Int×Int
 | [],i,st,_=>if CA st then (33,i) else (0,0)
 | n::ns,i,st,g =>
  if EG n=false then (33,i) else if DN st g n.depth n.kind.toNat=false then (33,i) else if 24<n.depth then (31,i)
  else EH ns (i+1) (AP st (n.depth-1).toNat n.kind.toNat) (DQ g n)
def wi0(n:Nd)(rest:List Nd)(i:Nat)(st:List AW)(g:Bool):Int×Int :=
 if EG n=false then (33,i) else if DN st g n.depth n.kind.toNat=false then (33,i) else if 24<n.depth then (31,i)
 else EH rest (i+1) (AP st (n.depth-1).toNat n.kind.toNat) (DQ g n)
theorem ya5(ns:List Nd)(i:Nat)(st:List AW)(g:Bool)(h:i<ns.length):EH (ns.drop i) i st g=wi0 ns[i] (ns.drop (i+1)) i st g:=by rw[List.drop_eq_getElem_cons h];rfl
def BD(ns:List Nd):Int×Int:=if 300<ns.length then (32,300) else EH ns 0 [] false
theorem Nat.toInt{k:Int}(h:0<=k):k=(k.toNat:Int):=(Int.toNat_of_nonneg h).symm
theorem yn0(n:Nd)(w:World)(hn:n.Ok)(hR:BF w) :
  Calls Tryz.prog 140 #[.agg #[nI n.depth,nI n.kind,.string n.name,nI n.num,nI n.op,nI n.pos]] w λe w'=>e=.returned (.bool (EG n))/\Below w.heap.size w w':=by
 by_cases h:n.kind<0\/15<n.kind
 ·have e:EG n=false:=by
   unfold EG;rcases h with h | h
   ·rw[decide_eq_false (by omega)];rfl
   rw[decide_eq_false (by omega:¬n.kind<=15)];simp
  rw[e];exact yx3 _ _ _ _ _ _ _ h
 have e:EG n=wh4 n.kind.toNat n.name.toList n.num n.op:=by unfold EG;rw[decide_eq_true (by omega:0<=n.kind),decide_eq_true (by omega:n.kind<=15)];rfl
 rw[e];have hk:n.kind=(n.kind.toNat:Int):=Nat.toInt oM;have:=yx4 n.depth n.num n.op n.pos n.kind.toNat n.name w oM hn.name hR;rw[<-hk]at this;exact this
theorem zi0{n:Nd}(h:EG n=true):0<=n.kind/\n.kind<=15:=by unfold EG at h;simp at h;exact⟨h.1.1,h.1.2⟩
theorem yx7(b:Nat)(n:Nd)(st:List AW)(g:Bool)(w:World)(hn:n.Ok)(hf:EG n=true)(hl:st.length<=24)(hk:∀h∈st,h.1<16/\(h.1=9\/h.2<=3))(hR:BF w)(hP:CN w b st g)(hno:DN st g n.depth n.kind.toNat=false) :
  Calls Tryz.prog 141 #[pA b 0,.agg #[nI n.depth,nI n.kind,.string n.name,nI n.num,nI n.op,nI n.pos]] w λe w'=>e=.returned (.bool false)/\Below w.heap.size w w':=by
 obtain⟨k0,k1⟩:=zi0 hf;have hk':n.kind=(n.kind.toNat:Int):=Nat.toInt oM;have:=yD0 b n.depth n.num n.op n.pos n.kind.toNat n.name st g w hn.lo hn.hi hl oM hk hR hP hno;rw[<-hk']at this;exact this
theorem yn1(b:Nat)(n:Nd)(st:List AW)(g:Bool)(w:World)(hf:EG n=true)(hl:st.length<=24)(hk:∀h∈st,h.1<16/\(h.1=9\/h.2<=3))(hd:∀h∈st,h.2<=400)(hR:BF w)(hP:CN w b st g)(hyes:DN st g n.depth n.kind.toNat=true) :
  Calls Tryz.prog 141 #[pA b 0,.agg #[nI n.depth,nI n.kind,.string n.name,nI n.num,nI n.op,nI n.pos]] w λe w'=>e=.returned (.bool true)/\AD b w w'/\CN w' b (AP st (n.depth-1).toNat n.kind.toNat) (DQ g n):=by
 obtain⟨k0,k1⟩:=zi0 hf;have hk':n.kind=(n.kind.toNat:Int):=Nat.toInt oM;unfold DN at hyes;simp only[Bool.and_eq_true,decide_eq_true_eq,Bool.not_eq_true']at hyes;obtain⟨⟨⟨a1,a2⟩,a3⟩,a4⟩:=hyes;have hd':n.depth=((n.depth-1).toNat:Int)+1:=oM;by_cases h0:(n.depth-1).toNat=0
 ·have h1:n.depth=1:=oM
  rw[h0]at a3 a4 ⊢;rw[List.drop_zero]at a3;have e:DQ g n=(g||AO n.kind.toNat==2):=by unfold DQ;rw[if_pos h1]
  have:=yx6 b n.num n.op n.pos n.kind.toNat n.name st g w hl oM hk hR hP a3 a4;rw[<-hk',<-h1,<-e]at this;rw[h1]at this ⊢;exact this
 have e:DQ g n=g:=by unfold DQ;rw[if_neg (by omega)]
 have:=yx5 b (n.depth-1).toNat n.num n.op n.pos n.kind.toNat n.name st g w hl oM oM hk hd hR hP a3 a4 oM;rw[<-hk',<-hd']at this;rw[e];exact this
theorem zE3(h:k<16):1<=AO k:=by
 have:∀j:Fin 16,1<=AO j:=by decide
 exact this ⟨k,h⟩
def wj9(i:Nat)(h:AW):Prop:=h.1<16/\(h.1=9\/h.2<=3)/\h.2<=i
theorem yn2{d:Int}{i:Nat}(hk:k<16)(h:∀x∈st,wj9 i x)(hp:DN st g d k=true):∀x∈AP st (d-1).toNat k,wj9 (i+1) x:=by
 unfold DN at hp;simp only[Bool.and_eq_true,decide_eq_true_eq,Bool.not_eq_true']at hp;obtain⟨⟨⟨a1,a2⟩,a3⟩,a4⟩:=hp;generalize hn:(d-1).toNat=n at *;have hnl:n<=st.length:=oM;intro x hx;unfold AP at hx;by_cases h0:n=0
 ·rw[if_pos h0]at hx
  simp at hx;subst hx;exact⟨hk,Or.inr (by simp),by simp⟩
 rw[if_neg h0]at hx;have hi:n-1<st.length:=oM;have e:st.getD (n-1) (0,0)=st[n-1]:=by rw[List.getD_eq_getElem?_getD,List.getElem?_eq_getElem hi];rfl
 rw[e]at hx;unfold CR at a4;rw[if_neg h0,e,beq_iff_eq]at a4;have hm:=h st[n-1] (List.getElem_mem _);rcases List.mem_append.1 hx with hx | hx
 ·have:=h x (List.mem_of_mem_take hx)
  exact⟨this.1,this.2.1,by have:=this.2.2;omega⟩
 simp only[List.mem_cons,List.not_mem_nil,or_false]at hx;rcases hx with rfl | rfl
 ·refine⟨hm.1,?_,by have:=hm.2.2;simp;omega⟩
  by_cases h9:st[n-1].1=9
  ·exact Or.inl h9
  refine Or.inr ?_;have hp:=zE3 hk;rw[<-a4]at hp;unfold BQ at hp;rw[if_neg h9]at hp;show st[n-1].2+1<=3
  split at hp<;>rename_i q0
  ·omega
  split at hp<;>rename_i q1
  ·omega
  split at hp<;>rename_i q2
  ·omega
  omega
 exact⟨hk,Or.inr (by simp),by simp⟩
theorem yx8{d:Int}(hp:DN st g d k=true)(hd:d<=24):(AP st (d-1).toNat k).length<=24:=by
 unfold DN at hp;simp only[Bool.and_eq_true,decide_eq_true_eq,Bool.not_eq_true']at hp;obtain⟨⟨⟨a1,a2⟩,a3⟩,a4⟩:=hp;unfold AP
 split
 ·simp
 rw[List.length_append,List.length_take];simp;omega
theorem FJ{a b a' b':Int}(h1:a=a')(h2:b=b'):Ending.returned (.tuple #[nI a,nI b])=.returned (.tuple #[nI a',nI b']):=by rw[h1,h2]
def wf3:Array Value:=#[nI 0,nI 0,nI 0,nI 0,nI 0,nI 0,nI 0,nI 0,nI 0,nI 0,nI 0,nI 0,nI 0,nI 0,nI 0,nI 0,nI 0,nI 0,nI 0,nI 0,nI 0,nI 0,nI 0,nI 0,nI 0,nI 0,nI 0,nI 0,nI 0,nI 0,nI 0,nI 0,nI 0,nI 0,nI 0,nI 0,nI 0,nI 0,nI 0,nI 0,nI 0,nI 0,nI 0,nI 0,nI 0,nI 0,nI 0,nI 0,nI 0,nI 0,nI 0,.bool false]
theorem zP4(w:World):CN (w.alloc (.cells wf3 230)) w.heap.size [] false:=by have hc:∀i,(w.alloc (.cells wf3 230)).cell? (aD w.heap.size i)=wf3[i]?:=λi=>World.cell?_alloc_at _ _ _ _ rfl;refine⟨by simp,by simp,by rw[hc];rfl,by rw[hc];rfl,λi h=>absurd h (by simp),λi h=>absurd h (by simp),λi h=>?_,λi=>World.frozen?_alloc_at _ _ _ _ rfl⟩;rw[hc];exact⟨_,Array.getElem?_eq_getElem (show i<wf3.size from h)⟩
theorem ya6(b o cap:Nat)(ns:List Nd)(w:World)(hok:∀n∈ns,n.Ok)(hR:BF w)(hN:AV w b o ns)(hlen:ns.length<=cap)(hcap:cap<=maxLen) :
  Calls Tryz.prog 114 #[.slice (sA b o) ns.length cap] w λe w'=>e=.returned (.tuple #[nI (BD ns).1,nI (BD ns).2])/\Below w.heap.size w w':=by
 have hl:ns.length<=maxLen:=oM;unfold maxLen at hl;by_cases h300:300<(ns.length:Int)
 ·have HF:Hi (BD ns=(32,300)):=by unfold Hi BD;rw[if_pos (by omega)]
  clear hok hR hN;go_enter Tryz.func114,Tryz.ntmps114;go_wp2
  go_ret2
  exact⟨FJ (by rw[HF.o]) (by rw[HF.o]),Below.refl _ _⟩
 have HF:Hi (BD ns=EH ns 0 [] false):=by unfold Hi BD;rw[if_neg (by omega)]
 have h300':(ns.length:Int)<=300:=oM;have hltN:=hN.lt;have HN:Hi _:=hN;have HR:Hi _:=hR;have HO:Hi _:=hok;clear hok hR hN h300;go_enter Tryz.func114,Tryz.ntmps114;go_wp2_with fail;go_loopw [12] (λt wr=>∃(i:Nat) (st:List AW) (g:Bool),i<=ns.length/\t=nI i/\Hi (EH ns 0 [] false=EH (ns.drop i) i st g)/\Hi (Below w.heap.size w wr)/\Hi (CN wr w.heap.size st g)/\st.length<=24/\Hi (∀h∈st,wj9 i h)) (λt _=>ns.length-(intOf t).toNat)
 case atStart=>exact⟨0,[],false,by omega,rfl,rfl,(Below.refl _ _).alloc (Nat.le_refl _) _,zP4 w,by simp,λh hh=>absurd hh (by simp)⟩
 obtain⟨i,st,g,hi,rfl,hr,HB,HP,hl24,HK⟩:=hrel;have hz:=HB.o.size;by_cases hlt:i<ns.length
 ·have HN2:=HN.o.below HB.o
  have HR2:=HR.o.below HB.o;have c0:=HN2.c0 i hlt;have c1:=HN2.c1 i hlt;have c2:=HN2.c2 i hlt;have c3:=HN2.c3 i hlt;have c4:=HN2.c4 i hlt;have c5:=HN2.c5 i hlt;have HOi:Hi _:=HO.o ns[i] (List.getElem_mem _)
  have HSTEP:Hi (EH ns 0 [] false=wi0 ns[i] (ns.drop (i+1)) i st g):=by unfold Hi;rw[hr.o,ya5 ns i st g hlt]
  have HR2':Hi _:=HR2;clear hr HN2 HR2;generalize ns[i]=nd at *;have hneb:¬b=wr.heap.size:=oM;have nwr:¬wr.heap.size=w.heap.size:=by have:=HP.o.lt;omega
  have hlp:=HP.o.lt;go_wp2_with fail;have hB1:Below wr.heap.size wr (wr.alloc (.cells #[nI nd.depth,nI nd.kind,.string nd.name,nI nd.num,nI nd.op,nI nd.pos] 78)):=(Below.refl _ _).alloc (nR_ _) _;have HB1:Hi _:=hB1;clear hB1;refine mq (yn0 nd _ HOi.o (HR2'.o.below HB1.o)) λw1 hb1=>?_;have HB2:Hi (Below wr.heap.size wr w1):=HB1.o.trans (hb1.mono sI);cases hf:EG nd
  ·have HE:Hi (EH ns 0 [] false=(33,(i:Int))):=by
    unfold Hi;rw[HSTEP.o];unfold wi0;rw[if_pos hf]
   clear hb1;go_wp2_with fail
   go_ret2
   exact⟨FJ (by rw[HF.o,HE.o]) (by rw[HF.o,HE.o]),HB.o.trans (HB2.o.mono hz)⟩
  obtain⟨hc1,hf1⟩:=wa6 hb1;have hz1:wr.heap.size+1<=w1.heap.size:=by have:=hb1.size;simp at this;omega
  have HR3:Hi _:=HR2'.o.below HB2.o;have HP3:Hi _:=HP.o.below HB2.o;have HKK:Hi (∀h∈st,h.1<16/\(h.1=9\/h.2<=3)):=λh hh=>⟨(HK.o h hh).1,(HK.o h hh).2.1⟩;have HKD:Hi (∀h∈st,h.2<=400):=λh hh=>by have:=(HK.o h hh).2.2;omega
  clear hb1;go_wp2_with fail;cases hp:DN st g nd.depth nd.kind.toNat
  ·have HE:Hi (EH ns 0 [] false=(33,(i:Int))):=by
    unfold Hi;rw[HSTEP.o];unfold wi0;rw[if_neg (by rw[hf];simp),if_pos hp]
   refine mq (yx7 _ nd st g _ HOi.o hf hl24 HKK.o HR3.o HP3.o hp) λw2 hb2=>?_;go_wp2_with fail
   go_ret2
   exact⟨FJ (by rw[HF.o,HE.o]) (by rw[HF.o,HE.o]),(HB.o.trans (HB2.o.mono hz)).trans (hb2.mono (by omega))⟩
  refine mq (yn1 _ nd st g _ hf hl24 HKK.o HKD.o HR3.o HP3.o hp) λw2 ⟨hb2,hp2⟩=>?_;have hz2:=hb2.low.size;have d0:w2.cell? (aD wr.heap.size 0)=some (nI nd.depth):=by rw[hb2.cell nwr (by omega),hc1 _ _ (by simp)];simp[go_sem]
  have HBB:Hi (Below w.heap.size w w2):=hb2.below (HB.o.trans (HB2.o.mono hz)) (nR_ _) oM;have HPP:Hi _:=hp2;clear hb2 hp2 hc1 hf1;by_cases hd24:24<nd.depth
  ·have HE:Hi (EH ns 0 [] false=(31,(i:Int))):=by
    unfold Hi;rw[HSTEP.o];unfold wi0;rw[if_neg (by rw[hf];simp),if_neg (by rw[hp];simp),if_pos hd24]
   go_wp2_with fail
   go_ret2
   exact⟨FJ (by rw[HF.o,HE.o]) (by rw[HF.o,HE.o]),HBB.o⟩
  have HE:Hi (EH ns 0 [] false=EH (ns.drop (i+1)) (i+1) (AP st (nd.depth-1).toNat nd.kind.toNat) (DQ g nd)):=by unfold Hi;rw[HSTEP.o];unfold wi0;rw[if_neg (by rw[hf];simp),if_neg (by rw[hp];simp),if_neg hd24]
  have hd24':nd.depth<=24:=oM;have hk15:=zi0 hf;have HL:Hi _:=yx8 hp hd24';have HH:Hi _:=yn2 oM HK.o hp;clear hf hp hd24 hk15;go_wp2_with fail;go_roundw
  case rel=>exact⟨i+1,_,_,by omega,by go_num,HE,HBB,HPP,HL.o,HH⟩
  case measure=>simp[intOf];omega
 have hi':ns.length<=i:=oM
 have HE:Hi (EH ns 0 [] false=if CA st then (33,(i:Int)) else (0,0)):=by unfold Hi;rw[hr.o,List.drop_of_length_le hi'];rfl
 have HR2:Hi _:=HR.o.below HB.o;have ei:i=ns.length:=oM;clear hr;go_wp2_with fail;refine mq (zj3 _ 0 st g _ oM oM (λh hh=>(HK.o h hh).1) HR2.o HP.o) λw1 hb1=>?_;rw[List.drop_zero];have HBB:=hid (HB.o.trans (hb1.mono hz));clear hb1;cases hw:CA st
 ·have HE2:Hi (EH ns 0 [] false=(0,0)):=by unfold Hi;rw[HE.o,hw];rfl
  go_wp2_with fail
  go_ret2
  exact⟨FJ (by rw[HF.o,HE2.o]) (by rw[HF.o,HE2.o]),HBB.o⟩
 have HE2:Hi (EH ns 0 [] false=(33,(ns.length:Int))):=by unfold Hi;rw[HE.o,hw,<-ei];rfl
 go_wp2_with fail
 go_ret2
 exact⟨FJ (by rw[HF.o,HE2.o]) (by rw[HF.o,HE2.o]),HBB.o⟩
end
section
open Go.RowKit
def CS:Nat->List AW->List Value
 | _,[]=>[]
 | j,h::t=>nI ((j:Int)+1)::nI h.1::nI h.2::CS (j+1) t
theorem yn3(j:Nat)(S:List AW):(CS j S).length=S.length*3:=by
 induction S generalizing j with
 | nil=>rfl
 | cons h t ih=>simp only[CS,List.length_cons,ih];omega
theorem zs7(j:Nat)(A B:List AW):CS j (A++B)=CS j A++CS (j+A.length) B:=by
 induction A generalizing j with
 | nil=>simp[CS]
 | cons h t ih =>
  simp only[CS,List.cons_append,ih,List.length_cons];rw[show j+1+t.length=j+(t.length+1) by omega]
theorem yn4(j:Nat)(S:List AW)(i:Nat)(h:i<S.length):(CS j S)[i*3]?=some (nI ((j:Int)+i+1))/\(CS j S)[i*3+1]?=some (nI S[i].1)/\(CS j S)[i*3+2]?=some (nI S[i].2):=by
 induction S generalizing j i with
 | nil=>simp at h
 | cons a t ih =>
  cases i with
  | zero=>simp[CS]
  | succ i =>
   have:=ih (j+1) i (by simpa using h);simp only[CS];rw[show(i+1)*3=i*3+1+1+1 by omega];simp only[List.getElem?_cons_succ,List.getElem_cons_succ];refine⟨this.1.trans (by congr 2;push_cast;omega),this.2.1,this.2.2⟩
theorem yn5(j:Nat)(S:List AW)(i:Nat)(h:i<S.length)(v:Nat):(CS j S).set (i*3+2) (nI v)=CS j (S.set i (S[i].1,v)):=by
 induction S generalizing j i with
 | nil=>simp at h
 | cons a t ih =>
  cases i with
  | zero=>simp[CS]
  | succ i =>
   have:=ih (j+1) i (by simpa using h);simp only[CS,List.set_cons_succ,List.getElem_cons_succ];rw[show(i+1)*3=(i*3+2)+1 by omega];simp only[List.set_cons_succ,this]
def AX(S:List AW):Bool:=S.any λh=>decide ((h.2:Int)<AT h.1)
structure wc3(w:World)(b:Nat)(n:Nd):Prop where
 c0:w.cell? (aD b 0)=some (nI n.depth)
 c1:w.cell? (aD b 1)=some (nI n.kind)
 c2:w.cell? (aD b 2)=some (.string n.name)
 c3:w.cell? (aD b 3)=some (nI n.num)
 c4:w.cell? (aD b 4)=some (nI n.op)
 c5:w.cell? (aD b 5)=some (nI n.pos)
theorem wc3.of{n:Nd}(h:wc3 w b n)(hc:∀o,w1.cell? (aD b o)=w.cell? (aD b o)):wc3 w1 b n :=
 ⟨by rw[hc];exact h.c0,by rw[hc];exact h.c1,by rw[hc];exact h.c2,by rw[hc];exact h.c3,by rw[hc];exact h.c4,by rw[hc];exact h.c5⟩
def wg2:Value->Nat
 | .slice _ n _=>n
 | _=>0
def Stk(w:World)(B:Nat)(v:Value)(S:List AW):Prop:=w.ownsRow B 159 3 v S.length (CS 0 S)
theorem Stk.form(h:Stk w B v S)(hn:0<S.length):∃g cap,v=.slice (sA g 0) S.length cap/\B<=g/\g<w.heap.size:=by
 rcases h.2 with ⟨_,h0⟩ | ⟨g,cap,cur,hv,hg,hh,_⟩
 ·omega
 refine⟨g,cap,hv,hg,?_⟩;rcases Nat.lt_or_ge g w.heap.size with h | h
 ·exact h
 rw[Array.getElem?_eq_none h]at hh;cases hh
theorem Stk.len(h:Stk w B v S):wg2 v=S.length:=by
 rcases h.2 with ⟨rfl,h0⟩ | ⟨g,cap,cur,rfl,_⟩
 ·exact h0.symm
 rfl
theorem Stk.below(h:Stk w B v S)(hb:Below w.heap.size w w1):Stk w1 B v S:=by
 refine⟨h.1,?_⟩;rcases h.2 with h0 | ⟨g,cap,cur,hv,hg,hh,hr⟩
 ·exact .inl h0
 refine .inr ⟨g,cap,cur,hv,hg,?_,hr⟩;rw[hb.block g ?_];exact hh;rcases Nat.lt_or_ge g w.heap.size with h | h
 ·exact h
 rw[Array.getElem?_eq_none h]at hh;cases hh
theorem Stk.pop{g cap:Nat}{m:Nat}(hm:m+1<=S.length)(h:Stk w B (.slice (sA g 0) (m+1) cap) (S.take (m+1))):Stk w B (.slice (sA g 0) m cap) (S.take m):=by
 have e:S.take (m+1)=S.take m++[S[m]]:=List.take_succ_eq_append_getElem oM;have l1:(S.take (m+1)).length=m+1:=by rw[List.length_take];omega
 have l0:(S.take m).length=m:=by rw[List.length_take];omega
 unfold Stk at *;rw[l1,e,zs7]at h;rw[l0];exact ownsRow_pop (by rw[yn3,l0]) h
end
end Go.Proofs.YtpongdpnbclchaaGreatDoor
