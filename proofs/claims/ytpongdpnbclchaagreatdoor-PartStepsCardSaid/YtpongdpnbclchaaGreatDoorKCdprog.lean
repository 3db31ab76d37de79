import Derived.Test.YtpongdpnbclchaaGreatDoorKCdps
set_option linter.all false
set_option maxRecDepth 100000
namespace Go.Proofs.YtpongdpnbclchaaGreatDoor
variable{B g n s:Nat}{e:TypeId}{v:Value}{w:World}{xs:List Value}
open Go.RowKit
theorem Mid.as{W:World}{q:Nat}{nd:Nd}{v:Nat->Value}(h:Mid W g q nd v){y0 y1 y2 y3 y4 y5:Value}(e0:v 0=y0)(e1:v 1=y1)(e2:v 2=y2)(e3:v 3=y3)(e4:v 4=y4)(e5:v 5=y5):g<W.heap.size/\q<W.heap.size/\¬g=q/\¬q=g/\W.cell? (aD g 0)=some y0/\W.cell? (aD g 1)=some y1/\W.cell? (aD g 2)=some y2/\W.cell? (aD g 3)=some y3/\W.cell? (aD g 4)=some y4/\W.cell? (aD g 5)=some y5/\(∀k,W.frozen? (aD g k)=false)/\W.cell? (aD q 0)=some (nI nd.depth)/\W.cell? (aD q 1)=some (nI nd.kind)/\W.cell? (aD q 2)=some (.string nd.name)/\W.cell? (aD q 3)=some (nI nd.num)/\W.cell? (aD q 4)=some (nI nd.op)/\W.cell? (aD q 5)=some (nI nd.pos):=by subst e0 e1 e2 e3 e4 e5;exact⟨h.glt,h.qlt,h.gq,h.qg,h.c0,h.c1,h.c2,h.c3,h.c4,h.c5,h.warm,h.d0,h.d1,h.d2,h.d3,h.d4,h.d5⟩
theorem zf3{e:Nat}{v':Value}(h:w.ownsRow B e s v n xs)(hv:v=v'):w.ownsRow B e s v' n xs:=hv ▸ h
theorem PS.apq{W W2:World}{q k m:Nat}{nd:Nd}{v:Nat->Value}{n:Nat->Nat}{x:Nat->List Value}{u x0:Value}{y:List Value}(h:PS w W g q nd v n x)(hk:k<6)(e:v k=x0)(hg:W.grownBy W2 x0.ownBlock)(ho:W2.ownsRow (g+1) (TY k) (SZ k) u m y)
  (hw:u.ownBlock=x0.ownBlock\/u.ownBlock=some W.heap.size):Mid W2 g q nd v/\PS w (W2.setCell (aD g k) u) g q nd (AU v k u) (AU n k m) (AU x k y):=h.app hk (by rw[e];exact hg) ho (by rw[e];exact hw)
theorem zw3(n:Nd):(BA n=1->BN n=false)/\(BA n=2->BN n=true):=by
 unfold BA BN;refine⟨λh=>?_,λh=>?_⟩
 ·by_cases k1:n.kind=2\/n.kind=4\/n.kind=12
  ·rcases k1 with e | e | e<;>simp[e]
  rw[if_neg k1]at h
  split at h<;>simp at h
 by_cases k1:n.kind=2\/n.kind=4\/n.kind=12
 ·rw[if_pos k1]at h;simp at h
 rw[if_neg k1]at h;by_cases k2:n.kind=3\/n.kind=13
 ·rcases k2 with e | e<;>simp[e]
 rw[if_neg k2]at h;simp at h
theorem Tryz.inf55:(Tryz.prog.info? 78).map (λi=>(i.zero,i.size,i.bytes))=some (some (.agg #[nI 0,nI 0,.string ⟨#[]⟩,nI 0,nI 0,nI 0]),6,56):=by kernel_rfl
theorem Tryz.inf9:(Tryz.prog.info? 9).map (λi=>(i.zero,i.size,i.bytes))=some (some (.string ⟨#[]⟩),1,16):=by kernel_rfl
theorem Tryz.inf76:(Tryz.prog.info? 112).map (λi=>(i.zero,i.size,i.bytes))=some (some (.agg #[.string ⟨#[]⟩,nI 0]),2,24):=by kernel_rfl
theorem Tryz.inf3:(Tryz.prog.info? 3).map (λi=>(i.zero,i.size,i.bytes))=some (some (nI 0),1,8):=by kernel_rfl
theorem yl5{B':Nat}(h:w.ownsRow B e s v n xs)(hb:B'<=B):w.ownsRow B' e s v n xs :=
 ⟨h.1,h.2.imp id (λ⟨g,cap,cur,h1,h2,h3⟩=>⟨g,cap,cur,h1,Nat.le_trans hb h2,h3⟩)⟩
theorem zn8{o:Nat}(h:w.ownsRow B e s v n xs)(hg:g<B)(u:Value):(w.setCell (aD g o) u).ownsRow B e s v n xs:=by
 refine h.kept (zs0 w g o u) ?_
 cases hq:v.ownBlock with
 | none=>exact .inl rfl
 | some b=>exact .inr (by have:=(h.lt b hq).1;simp;omega)
theorem zI9(h:w.ownsRow B e s v n xs)(hg:g<B)(b0 b1 b2 b3 b4 b5:Value) :
  ((((((w.setCell (aD g 0) b0).setCell (aD g 1) b1).setCell (aD g 2) b2).setCell (aD g 3) b3).setCell (aD g 4) b4).setCell (aD g 5) b5).ownsRow g e s v n xs :=
 yl5 (zn8 (zn8 (zn8 (zn8 (zn8 (zn8 h hg b0) hg b1) hg b2) hg b3) hg b4) hg b5) oM
theorem zX5{ns:List Nd}(hs:Shp ns)(i:Nat)(hi:i<ns.length)(hx:(BP ns[i]||DG ns[i])=true):∃(k:Nat) (hk:k<ns.length),BU ns ns[i].depth i=k/\wb6 ns[k]=wb9 ns i ns[i]:=by
 have hk:10<=ns[i].kind:=by
  by_cases h:10<=ns[i].kind
  ·exact h
  have:=(zo2 (hs.fit i hi)).2.2.1 oM;rw[this.1,this.2]at hx;cases hx
 obtain⟨k,hkl,hki,e1,e2,e3⟩:=zr9 hs i hi (hs.expr i hi hk) i (nR_ _) (λm hm a b=>absurd a oM);refine⟨k,hkl,e1,?_⟩;unfold wb9;rw[e1,Int.toNat_natCast];have e:ns.getD k nd0=ns[k]:=by simp[List.getD,hkl]
 rw[e]
set_option maxHeartbeats 8000000 in
theorem zJ0(nb o cap:Nat)(ns:List Nd)(w:World)(hok:∀n∈ns,n.Ok)(hN:AV w nb o ns)(hlen:ns.length<=cap)(hcap:cap<=maxLen) :
  Calls Tryz.prog 22 #[.slice (sA nb o) ns.length cap] w λe w'=>∃v:Nat->Value,e=.returned (.tuple #[.agg #[v 0,v 1,v 2,v 3,v 4,v 5],nI (AC ns).1,nI (AC ns).2.1])/\Below w.heap.size w w' /\
   ((AC ns).1=0->(∀k,k<6->w'.ownsRow w.heap.size (TY k) (SZ k) (v k) (nOf ns.length (AC ns).2.2 k) (xOf ns ns.length (AC ns).2.2 k))/\Apt v)/\((AC ns).1≠0->∀k,v k=sZ):=by
 have hl:ns.length<=maxLen:=oM;unfold maxLen at hl;have hlt:=hN.lt;have HOK:Hi _:=hok;have HN:Hi _:=hN;have HSH:Hi (∀w',Below w.heap.size w w'->Calls Tryz.prog 42 #[.slice (sA nb o) ns.length cap] w' λe w''=>e=.returned (.tuple #[nI (CG ns).1,nI (CG ns).2])/\Below w'.heap.size w' w''):=λw' hb=>zT8 nb o cap ns w' hok (hN.below hb) hlen hcap;have HB0:Hi (∀ob,Below w.heap.size w (w.alloc ob)):=λob=>(Below.refl _ _).alloc (nR_ _) _;clear hok hN;by_cases h0:(CG ns).1=0
 case neg =>
  have hc1:((CG ns).1==0)=false:=by rw[beq_eq_false_iff_ne];exact h0
  have HE:Hi (AC ns=((CG ns).1,(CG ns).2,ls0)):=by unfold Hi AC;rw[if_neg h0];rfl
  go_enter Tryz.func22,Tryz.ntmps22;go_wp2_with fail;refine mq (HSH.o _ (HB0.o _)) λw1 hb1=>?_;have HX:Hi (Six w1 w.heap.size (sZ) (sZ) (sZ) (sZ) (sZ) (sZ)):=(Six.new w _ _ _ _ _ _).below hb1;have HB1:Hi (Below w.heap.size w w1):=(HB0.o _).trans (hb1.mono sI);clear hb1;obtain⟨z1,c0,c1,c2,c3,c4,c5⟩:=HX.o.pc;have wf:=HX.o.warm;go_wp2_with fail
  try simp only[Exit.inBlock,Exit.then]
  refine bodyPost_ret (zc6 rfl _ _ w.heap.size 33 _ (0,0) _ rfl (zc9 HX.o.heap _ _ _ _ _ _) Tryz.underlying33 rfl Tryz.info33) rfl ?_;rw[HE.o];exact⟨λ_=>sZ,rfl,zc8 HB1.o (nR_ _) _ _ _ _ _ _,λh'=>absurd h' h0,λ_ _=>rfl⟩
 have HSD:Hi ((BD ns).1=0):=by rw[<-zz0 ns HOK.o];exact h0
 have HSP:=hid (zP0 HSD.o);have h300:ns.length<=300:=(zn9 ns HSD.o).1;have h300':(ns.length:Int)<=300:=oM;have HE:Hi (AC ns=AS ns ns 0 ls0):=by unfold Hi AC;rw[if_pos h0];rfl
 have HSH2:Hi (∀w',Below w.heap.size w w'->Calls Tryz.prog 42 #[.slice (sA nb o) ns.length cap] w' λe w''=>e=.returned (.tuple #[nI 0,nI (CG ns).2])/\Below w'.heap.size w' w''):=λw' hb=>by
  have:=HSH.o w' hb
  rwa [h0]at this
 clear HSH h0;generalize (CG ns).2=sh2 at *;go_enter Tryz.func22,Tryz.ntmps22;go_wp2_with fail;refine mq (HSH2.o _ (HB0.o _)) λw1 hb1=>?_;have HX1:Hi (Six w1 w.heap.size (sZ) (sZ) (sZ) (sZ) (sZ) (sZ)):=(Six.new w _ _ _ _ _ _).below hb1;have HB1:Hi (Below w.heap.size w w1):=(HB0.o _).trans (hb1.mono sI);have hlo:w.heap.size<w1.heap.size:=HX1.o.lt;clear hb1 HSH2 HB0;obtain⟨g,hg⟩:=qq (w1.heap.size);have HG:Hi _:=hg
 have HO1:Hi (wf0 (w1.alloc (.cells #[sZ,sZ,sZ,sZ,sZ,sZ] 33)) w1.heap.size (w1.heap.size+1) (λ_=>sZ) (nOf 0 ls0) (xOf ns 0 ls0)):=by
  have S:=Six.new w1 (sZ) (sZ) (sZ) (sZ) (sZ) (sZ);have P:=S.pc;refine⟨by omega,by simp,λk hk=>?_,λj k _ _ _=>.inl rfl,λk hk=>?_,S.warm⟩
  ·have:k=0\/k=1\/k=2\/k=3\/k=4\/k=5:=oM
   rcases this with rfl | rfl | rfl | rfl | rfl | rfl<;>exact World.ownsRow_nil _ _ _ _
  have:k=0\/k=1\/k=2\/k=3\/k=4\/k=5:=oM;rcases this with rfl | rfl | rfl | rfl | rfl | rfl
  ·exact P.c0
  ·exact P.c1
  ·exact P.c2
  ·exact P.c3
  ·exact P.c4
  exact P.c5
 have HX2:Hi _:=HX1.o.below ((Below.refl _ _).alloc (nR_ _) (.cells #[sZ,sZ,sZ,sZ,sZ,sZ] 33));have HB2:Hi (Below w.heap.size w (w1.alloc (.cells #[sZ,sZ,sZ,sZ,sZ,sZ] 33))):=HB1.o.alloc HB1.o.size _;rw[<-hg]at HO1;clear hg;go_wp2_with fail;go_loopw [8] (λt wr=>∃(i:Nat) (l:Ls) (v:Nat->Value),i<=ns.length/\t=nI i/\Hi (AS ns ns 0 ls0=AS ns (ns.drop i) i l)/\Hi (Below w.heap.size w wr)/\Hi (Six wr w.heap.size (sZ) (sZ) (sZ) (sZ) (sZ) (sZ))/\Hi (wf0 wr g (g+1) v (nOf i l) (xOf ns i l))/\Hi (l.sc.length<=i/\l.ar.length<=i/\l.sy.length=i/\l.si.length<=i/\l.so.length=i)) (λt _=>ns.length-(intOf t).toNat)
 case atStart=>exact⟨0,ls0,λ_=>sZ,by omega,rfl,rfl,HB2.o,HX2.o,HO1.o,by unfold Hi;simp[ls0]⟩
 obtain⟨i,l,v,hi,rfl,hr,HB,HX,HO,HLB⟩:=hrel;rw[<-HG.o];by_cases hlt2:i<ns.length
 ·obtain⟨n,hn⟩:∃n,ns[i]=n:=⟨_,rfl⟩
  have HNN:Hi _:=hn
  have HFC:Hi (∀w',Below w.heap.size w w'->Calls Tryz.prog 43 #[.slice (sA nb o) ns.length cap,nI i,nI l.si.length] w' λe w''=>e=.returned (nI (EC ns i n l.si.length))/\Below w'.heap.size w' w''):=λw' hb=>by refine zY1 nb o cap i l.si.length ns _ _ _ _ n w' hlt2 hn h300 (by have:=HLB.o;omega) (HN.o.below hb) rfl rfl rfl (λhx=>?_);rw[<-hn]at hx ⊢;exact zX5 HSP.o i hlt2 hx
  have HST:Hi (AS ns ns 0 ls0=if EC ns i n l.si.length=0 then AS ns (ns.drop (i+1)) (i+1) (BE ns i n l) else (EC ns i n l.si.length,(i:Int),l)):=by unfold Hi;rw[hr.o,List.drop_eq_getElem_cons hlt2,AS,hn]
  clear hr hn;obtain⟨a4,k4,e4⟩:=za0 (show wr.ownsRow (g+1) 3 1 (v 4) l.si.length _ from HO.o.own 4 oM);have c4:=HO.o.cell 4 oM;rw[e4]at c4;have hi2:(i:Int)<ns.length:=oM;generalize hfr:EC ns i n l.si.length=fr at *;go_wp2_with fail;refine mq (HFC.o _ HB.o) λw2 hb2=>?_;have HB2:=hid (HB.o.trans (hb2.mono HB.o.size));have HX2:Hi _:=HX.o.below hb2;have HO2:Hi _:=HO.o.below hb2;clear hb2 HB HX HO c4 HFC;by_cases hf0:fr=0
  case neg =>
   have hfb:(fr==0)=false:=by rw[beq_eq_false_iff_ne];exact hf0
   have HL:Hi (AC ns=(fr,(i:Int),l)):=by unfold Hi;rw[HE.o,HST.o,if_neg hf0]
   obtain⟨z1,c0,c1,c2,c3,c4,c5⟩:=HX2.o.pc;have wf:=HX2.o.warm;go_wp2_with fail
   try simp only[Exit.inBlock,Exit.then]
   refine bodyPost_ret (zc6 rfl _ _ w.heap.size 33 _ (0,0) _ rfl (zc9 HX2.o.heap _ _ _ _ _ _) Tryz.underlying33 rfl Tryz.info33) rfl ?_;rw[HL.o];exact⟨λ_=>sZ,rfl,zc8 HB2.o (nR_ _) _ _ _ _ _ _,λh'=>absurd h' hf0,λ_ _=>rfl⟩
  subst hf0;have HST2:Hi (AS ns ns 0 ls0=AS ns (ns.drop (i+1)) (i+1) (BE ns i n l)):=by unfold Hi;rw[HST.o,if_pos rfl]
  clear HST;obtain⟨a0,k0,e0⟩:=za0 (show w2.ownsRow (g+1) 78 6 (v 0) i _ from HO2.o.own 0 oM);obtain⟨a1,k1,e1⟩:=za0 (show w2.ownsRow (g+1) 9 1 (v 1) l.sc.length _ from HO2.o.own 1 oM);obtain⟨a2,k2,e2⟩:=za0 (show w2.ownsRow (g+1) 112 2 (v 2) l.ar.length _ from HO2.o.own 2 oM);obtain⟨a3,k3,e3⟩:=za0 (show w2.ownsRow (g+1) 3 1 (v 3) l.sy.length _ from HO2.o.own 3 oM);obtain⟨a4',k4',e4'⟩:=za0 (show w2.ownsRow (g+1) 3 1 (v 4) l.si.length _ from HO2.o.own 4 oM);obtain⟨a5,k5,e5⟩:=za0 (show w2.ownsRow (g+1) 3 1 (v 5) l.so.length _ from HO2.o.own 5 oM);have HN2:=HN.o.below HB2.o;have m0:=HN2.c0 i hlt2;have m1:=HN2.c1 i hlt2;have m2:=HN2.c2 i hlt2;have m3:=HN2.c3 i hlt2;have m4:=HN2.c4 i hlt2;have m5:=HN2.c5 i hlt2;rw[HNN.o]at m0 m1 m2 m3 m4 m5;have hnb:¬nb=w2.heap.size:=by have:=HN2.lt;omega
  clear HN2
  have HP0:Hi (PS w (w2.alloc (.cells #[nI n.depth,nI n.kind,.string n.name,nI n.num,nI n.op,nI n.pos] 78)) g w2.heap.size n v (nOf i l) (xOf ns i l)):=by have hb:Below w2.heap.size w2 (w2.alloc (.cells #[nI n.depth,nI n.kind,.string n.name,nI n.num,nI n.op,nI n.pos] 78)):=(Below.refl _ _).alloc (nR_ _) _;exact⟨HB2.o.trans (hb.mono HB2.o.size),HX2.o.below hb,HO2.o.below hb,NdC.new w2 n,by have:=hlo;rw[<-HG.o]at this;omega,Nat.lt_of_lt_of_le HO2.o.gB HO2.o.lt,λk hk e=>by have:=((HO2.o.own k hk).lt _ e).2;omega⟩
  have HF:Hi _:=zo2 (HSP.o.fit i hlt2);rw[HNN.o]at HF
  obtain⟨c0,c1,c2,c3,c4,c5⟩:w2.cell? ⟨g,0,none⟩=some (Value.slice a0 i k0)/\w2.cell? ⟨g,1,none⟩=some (Value.slice a1 l.sc.length k1)/\w2.cell? ⟨g,2,none⟩=some (Value.slice a2 l.ar.length k2)/\w2.cell? ⟨g,3,none⟩=some (Value.slice a3 l.sy.length k3)/\w2.cell? ⟨g,4,none⟩=some (Value.slice a4 l.si.length k4)/\w2.cell? ⟨g,5,none⟩=some (Value.slice a5 l.so.length k5) :=
   ⟨by rw[<-e0];exact HO2.o.cell 0 (by omega),by rw[<-e1];exact HO2.o.cell 1 (by omega),by rw[<-e2];exact HO2.o.cell 2 (by omega),by rw[<-e3];exact HO2.o.cell 3 (by omega),by rw[<-e4];exact HO2.o.cell 4 (by omega),by rw[<-e5];exact HO2.o.cell 5 (by omega)⟩
  have hgl:g<w2.heap.size:=lL_ HO2.o.gB HO2.o.lt;have hgn:¬g=w2.heap.size:=oM;have hng:¬w2.heap.size=g:=oM;obtain⟨iN,hN0,hN1,hN2,hN3⟩:=info_parts Tryz.inf55;obtain⟨iS,hS0,hS1,hS2,hS3⟩:=info_parts Tryz.inf9;obtain⟨iA,hA0,hA1,hA2,hA3⟩:=info_parts Tryz.inf76;obtain⟨iI,hI0,hI1,hI2,hI3⟩:=info_parts Tryz.inf3;have HD0:Hi (∀w',Below w.heap.size w w'->Calls Tryz.prog 45 #[.slice (sA nb o) ns.length cap,nI 0,.string n.name,nI ns.length] w' λe w''=>e=.returned (.tuple #[nI (AQ ns 0 n.name.toList ns.length).1,nI (AQ ns 0 n.name.toList ns.length).2])/\w''=w'):=λw' hb=>zf8 nb o cap ns.length 0 n.name ns w' (nR_ _) h300 (.inl rfl) (HN.o.below hb);have HD1:Hi (∀w',Below w.heap.size w w'->Calls Tryz.prog 45 #[.slice (sA nb o) ns.length cap,nI 1,.string n.name,nI ns.length] w' λe w''=>e=.returned (.tuple #[nI (AQ ns 1 n.name.toList ns.length).1,nI (AQ ns 1 n.name.toList ns.length).2])/\w''=w'):=λw' hb=>zf8 nb o cap ns.length 1 n.name ns w' (nR_ _) h300 (.inr rfl) (HN.o.below hb);obtain⟨ds,hds⟩:∃x,(AQ ns 0 n.name.toList ns.length).1=x:=⟨_,rfl⟩;obtain⟨da,hda⟩:∃x,(AQ ns 1 n.name.toList ns.length).1=x:=⟨_,rfl⟩;obtain⟨dn,hdn⟩:∃x,(AQ ns 0 n.name.toList ns.length).2=x:=⟨_,rfl⟩;obtain⟨dm,hdm⟩:∃x,(AQ ns 1 n.name.toList ns.length).2=x:=⟨_,rfl⟩;have HDS:Hi _:=hds;have HDA:Hi _:=hda;rw[hds,hdn]at HD0;rw[hda,hdm]at HD1;clear hds hda hdn hdm;by_cases hk0:n.kind=0
  ·have hb0:(n.kind==0)=true:=by rw[hk0];rfl
   have hsite:BN n=false:=HF.o.2.2.2.2 oM;have HK0:Hi _:=hk0;clear hk0;have O1:Hi ((w2.alloc (.cells #[nI n.depth,nI n.kind,.string n.name,nI n.num,nI n.op,nI n.pos] 78)).ownsRow (g+1) 9 1 (Value.slice a1 l.sc.length k1) l.sc.length (l.sc.map (λs=>Value.string s))):=zf3 (HP0.o.own.own 1 oM) (by first | exact e1 | rfl)
   go_wp2_with (at_builtin;refine wpList_append_own_at _ rfl _ _ 30 rfl (g+1) 9 iS (.string ⟨#[]⟩) 1 16 Tryz.underlying30 hS0 hS1 hS2 hS3 rfl dC _ _ _ rfl (O1.o.alloc _) ⟨w2.heap.size+1,0,none⟩ 1 1 [.string n.name] rfl rfl ?z1a ?z1b ?z1c ?z1d ?z1e ?_)
   case z1a =>
    intro j u hj
    match j,hj with
    | 0,hj=>simp at hj;subst hj;simp[Addr.add,go_sem]
   case z1b=>intro u hu;simp at hu;subst hu;rfl
   case z1c=>simp[maxLen];have:=HLB.o;omega
   case z1d=>have:=HLB.o;omega
   case z1e=>have:=HP0.o.own.lt;simp at this ⊢;omega
   intro u1 X1 ho1 hgr1 _ hwh1;obtain⟨b1,q1,rfl⟩:=za0 ho1;have HA1:Hi _:=(HP0.o.below ((Below.refl _ _).alloc (Nat.le_refl _) _)).apq (k:=1) oM (by first | exact e1 | rfl) hgr1 ho1 (by first | exact hwh1 | simpa using hwh1);have HM1:Hi _:=HA1.o.1;clear O1 ho1 hgr1 hwh1;clear c0 c1 c2 c3 c4 c5 hnb m0 m1 m2 m3 m4 m5 hgl hgn hng;obtain⟨gl,ql,gq,qg,c0,c1,c2,c3,c4,c5,wm,d0,d1,d2,d3,d4,d5⟩:=HM1.o.as e0 e1 e2 e3 e4 e5;go_wp2_with fail;refine mq (zk1 n hsite _) λY2 hbY2=>?_;have HY2:Hi _:=HA1.o.2.below hbY2;clear hbY2;clear c0 c1 c2 c3 c4 c5 d0 d1 d2 d3 d4 d5 wm gl ql gq qg;obtain⟨gl,ql,gq,qg,c0,c1,c2,c3,c4,c5,wm,d0,d1,d2,d3,d4,d5⟩:=HY2.o.mid.as (y1:=.slice b1 (l.sc.length+1) q1) e0 rfl e2 e3 e4 e5;have HSY:Hi (wa8 ns n l=(l.sc.length:Int)):=by unfold Hi wa8;rw[if_pos HK0.o]
   have O3:Hi (Y2.ownsRow (g+1) 78 6 (Value.slice a0 i k0) i ((ns.take i).flatMap CC)):=zf3 (HY2.o.own.own 0 oM) (by first | exact e0 | rfl)
   go_wp2_with (at_builtin;refine wpList_append_own_at _ rfl _ _ 29 rfl (g+1) 78 iN (.agg #[nI 0,nI 0,.string ⟨#[]⟩,nI 0,nI 0,nI 0]) 6 56 Tryz.underlying29 hN0 hN1 hN2 hN3 rfl dC _ _ _ rfl (O3.o.alloc _) ⟨Y2.heap.size,0,none⟩ 1 1 [nI n.depth,nI n.kind,.string n.name,nI n.num,nI n.op,nI n.pos] rfl rfl ?z3a ?z3b ?z3c ?z3d ?z3e ?_)
   case z3a =>
    intro j u hj
    match j,hj with
    | 0,hj=>simp at hj;subst hj;simp[Addr.add,go_sem]
    | 1,hj=>simp at hj;subst hj;simp[Addr.add,go_sem]
    | 2,hj=>simp at hj;subst hj;simp[Addr.add,go_sem]
    | 3,hj=>simp at hj;subst hj;simp[Addr.add,go_sem]
    | 4,hj=>simp at hj;subst hj;simp[Addr.add,go_sem]
    | 5,hj=>simp at hj;subst hj;simp[Addr.add,go_sem]
   case z3b=>intro u hu;simp at hu;rcases hu with rfl | rfl | rfl | rfl | rfl | rfl<;>rfl
   case z3c=>simp[maxLen];have:=HLB.o;omega
   case z3d=>have:=HLB.o;omega
   case z3e=>have:=HY2.o.own.lt;simp at this ⊢;omega
   intro u3 X3 ho3 hgr3 _ hwh3;obtain⟨b3,q3,rfl⟩:=za0 ho3;have HA3:Hi _:=(HY2.o.below ((Below.refl _ _).alloc (Nat.le_refl _) _)).apq (k:=0) oM (by first | exact e0 | rfl) hgr3 ho3 (by first | exact hwh3 | simpa using hwh3);have HM3:Hi _:=HA3.o.1;clear O3 ho3 hgr3 hwh3;clear c0 c1 c2 c3 c4 c5 d0 d1 d2 d3 d4 d5 wm gl ql gq qg;obtain⟨gl,ql,gq,qg,c0,c1,c2,c3,c4,c5,wm,d0,d1,d2,d3,d4,d5⟩:=HM3.o.as (y1:=.slice b1 (l.sc.length+1) q1) e0 rfl e2 e3 e4 e5;have O4:Hi ((X3.setCell (aD g 0) (Value.slice b3 (i+1) q3)).ownsRow (g+1) 3 1 (Value.slice a3 l.sy.length k3) l.sy.length (l.sy.map (λs=>Value.int .i64 s))):=zf3 (HA3.o.2.own.own 3 oM) (by first | exact e3 | rfl)
   go_wp2_with (at_builtin;refine wpList_append_own_at _ rfl _ _ 25 rfl (g+1) 3 iI (nI 0) 1 8 Tryz.underlying25 hI0 hI1 hI2 hI3 rfl dC _ _ _ rfl (O4.o.alloc _) ⟨X3.heap.size,0,none⟩ 1 1 [nI l.sc.length] rfl rfl ?z4a ?z4b ?z4c ?z4d ?z4e ?_)
   case z4a =>
    intro j u hj
    match j,hj with
    | 0,hj=>simp at hj;subst hj;simp[Addr.add,go_sem]
   case z4b=>intro u hu;simp at hu;subst hu;rfl
   case z4c=>simp[maxLen];have:=HLB.o;omega
   case z4d=>have:=HLB.o;omega
   case z4e=>have:=HA3.o.2.own.lt;simp at this ⊢;omega
   intro u4 X4 ho4 hgr4 _ hwh4;obtain⟨b4,q4,rfl⟩:=za0 ho4;have HA4:Hi _:=(HA3.o.2.below ((Below.refl _ _).alloc (Nat.le_refl _) _)).apq (k:=3) oM (by first | exact e3 | rfl) hgr4 ho4 (by first | exact hwh4 | simpa using hwh4);have HM4:Hi _:=HA4.o.1;clear O4 ho4 hgr4 hwh4;clear c0 c1 c2 c3 c4 c5 d0 d1 d2 d3 d4 d5 wm gl ql gq qg;obtain⟨gl,ql,gq,qg,c0,c1,c2,c3,c4,c5,wm,d0,d1,d2,d3,d4,d5⟩:=HM4.o.as (y0:=.slice b3 (i+1) q3) (y1:=.slice b1 (l.sc.length+1) q1) rfl rfl e2 e3 e4 e5;have O5:Hi ((X4.setCell (aD g 3) (Value.slice b4 (l.sy.length+1) q4)).ownsRow (g+1) 3 1 (Value.slice a5 l.so.length k5) l.so.length (l.so.map (λs=>Value.int .i64 s))):=zf3 (HA4.o.2.own.own 5 oM) (by first | exact e5 | rfl)
   go_wp2_with (at_builtin;refine wpList_append_own_at _ rfl _ _ 25 rfl (g+1) 3 iI (nI 0) 1 8 Tryz.underlying25 hI0 hI1 hI2 hI3 rfl dC _ _ _ rfl (O5.o.alloc _) ⟨X4.heap.size,0,none⟩ 1 1 [nI (-1)] rfl rfl ?z5a ?z5b ?z5c ?z5d ?z5e ?_)
   case z5a =>
    intro j u hj
    match j,hj with
    | 0,hj=>simp at hj;subst hj;simp[Addr.add,go_sem]
   case z5b=>intro u hu;simp at hu;subst hu;rfl
   case z5c=>simp[maxLen];have:=HLB.o;omega
   case z5d=>have:=HLB.o;omega
   case z5e=>have:=HA4.o.2.own.lt;simp at this ⊢;omega
   intro u5 X5 ho5 hgr5 _ hwh5;obtain⟨b5,q5,rfl⟩:=za0 ho5;have HA5:Hi _:=(HA4.o.2.below ((Below.refl _ _).alloc (Nat.le_refl _) _)).apq (k:=5) oM (by first | exact e5 | rfl) hgr5 ho5 (by first | exact hwh5 | simpa using hwh5);have HM5:Hi _:=HA5.o.1;clear O5 ho5 hgr5 hwh5;clear c0 c1 c2 c3 c4 c5 d0 d1 d2 d3 d4 d5 wm gl ql gq qg;obtain⟨gl,ql,gq,qg,c0,c1,c2,c3,c4,c5,wm,d0,d1,d2,d3,d4,d5⟩:=HM5.o.as (y0:=.slice b3 (i+1) q3) (y1:=.slice b1 (l.sc.length+1) q1) (y3:=.slice b4 (l.sy.length+1) q4) rfl rfl e2 rfl e4 e5;have HQ:Hi _:=HA5.o.2;go_wp2_with fail;go_roundw
   case rel =>
    refine⟨i+1,BE ns i n l,(AU (AU (AU (AU v 1 (Value.slice b1 (l.sc.length+1) q1)) 0 (Value.slice b3 (i+1) q3)) 3 (Value.slice b4 (l.sy.length+1) q4)) 5 (Value.slice b5 (l.so.length+1) q5)),by omega,by go_num,HST2,HQ.o.hb,HQ.o.six,HQ.o.own.congr (λk hk=>rfl) (λk hk=>?_) (λk hk=>?_),?_⟩
    ·have:k=0\/k=1\/k=2\/k=3\/k=4\/k=5:=oM
     rcases this with rfl | rfl | rfl | rfl | rfl | rfl<;>simp[AU,nOf,BE,HK0.o,HSY.o,hsite]
    ·have:k=0\/k=1\/k=2\/k=3\/k=4\/k=5:=oM
     rcases this with rfl | rfl | rfl | rfl | rfl | rfl<;>simp[AU,xOf,BE,zh0 ns i hlt2,HNN.o,CC,HK0.o,HSY.o,hsite]
    have:=HLB.o;unfold Hi;simp[BE,HK0.o,HSY.o,hsite];omega
   case measure=>simp[intOf];omega
  by_cases hk1:n.kind=1
  ·have hb0:(n.kind==0)=false:=by rw[hk1];rfl
   have hb1:(n.kind==1)=true:=by rw[hk1];rfl
   have hsite:BN n=false:=HF.o.2.2.2.2 oM;have HK1:Hi _:=hk1;clear hk0 hk1;have O1:Hi ((w2.alloc (.cells #[nI n.depth,nI n.kind,.string n.name,nI n.num,nI n.op,nI n.pos] 78)).ownsRow (g+1) 112 2 (Value.slice a2 l.ar.length k2) l.ar.length (l.ar.flatMap (λa=>[Value.string a.1,Value.int .i64 a.2]))):=zf3 (HP0.o.own.own 2 oM) (by first | exact e2 | rfl)
   go_wp2_with (at_builtin;refine wpList_append_own_at _ rfl _ _ 31 rfl (g+1) 112 iA (.agg #[.string ⟨#[]⟩,nI 0]) 2 24 Tryz.underlying31 hA0 hA1 hA2 hA3 rfl dC _ _ _ rfl (O1.o.alloc _) ⟨w2.heap.size+1,0,none⟩ 1 1 [.string n.name,nI n.num] rfl rfl ?z1a ?z1b ?z1c ?z1d ?z1e ?_)
   case z1a =>
    intro j u hj
    match j,hj with
    | 0,hj=>simp at hj;subst hj;simp[Addr.add,go_sem]
    | 1,hj=>simp at hj;subst hj;simp[Addr.add,go_sem]
   case z1b=>intro u hu;simp at hu;rcases hu with rfl | rfl<;>rfl
   case z1c=>simp[maxLen];have:=HLB.o;omega
   case z1d=>have:=HLB.o;omega
   case z1e=>have:=HP0.o.own.lt;simp at this ⊢;omega
   intro u1 X1 ho1 hgr1 _ hwh1;obtain⟨b1,q1,rfl⟩:=za0 ho1;have HA1:Hi _:=(HP0.o.below ((Below.refl _ _).alloc (Nat.le_refl _) _)).apq (k:=2) oM (by first | exact e2 | rfl) hgr1 ho1 (by first | exact hwh1 | simpa using hwh1);have HM1:Hi _:=HA1.o.1;clear O1 ho1 hgr1 hwh1;clear c0 c1 c2 c3 c4 c5 hnb m0 m1 m2 m3 m4 m5 hgl hgn hng;obtain⟨gl,ql,gq,qg,c0,c1,c2,c3,c4,c5,wm,d0,d1,d2,d3,d4,d5⟩:=HM1.o.as e0 e1 e2 e3 e4 e5;go_wp2_with fail;refine mq (zk1 n hsite _) λY2 hbY2=>?_;have HY2:Hi _:=HA1.o.2.below hbY2;clear hbY2;clear c0 c1 c2 c3 c4 c5 d0 d1 d2 d3 d4 d5 wm gl ql gq qg;obtain⟨gl,ql,gq,qg,c0,c1,c2,c3,c4,c5,wm,d0,d1,d2,d3,d4,d5⟩:=HY2.o.mid.as (y2:=.slice b1 (l.ar.length+1) q1) e0 e1 rfl e3 e4 e5;have HSY:Hi (wa8 ns n l=(l.ar.length:Int)):=by unfold Hi wa8;rw[if_neg (by have:=HK1.o;omega),if_pos HK1.o]
   have O3:Hi (Y2.ownsRow (g+1) 78 6 (Value.slice a0 i k0) i ((ns.take i).flatMap CC)):=zf3 (HY2.o.own.own 0 oM) (by first | exact e0 | rfl)
   go_wp2_with (at_builtin;refine wpList_append_own_at _ rfl _ _ 29 rfl (g+1) 78 iN (.agg #[nI 0,nI 0,.string ⟨#[]⟩,nI 0,nI 0,nI 0]) 6 56 Tryz.underlying29 hN0 hN1 hN2 hN3 rfl dC _ _ _ rfl (O3.o.alloc _) ⟨Y2.heap.size,0,none⟩ 1 1 [nI n.depth,nI n.kind,.string n.name,nI n.num,nI n.op,nI n.pos] rfl rfl ?z3a ?z3b ?z3c ?z3d ?z3e ?_)
   case z3a =>
    intro j u hj
    match j,hj with
    | 0,hj=>simp at hj;subst hj;simp[Addr.add,go_sem]
    | 1,hj=>simp at hj;subst hj;simp[Addr.add,go_sem]
    | 2,hj=>simp at hj;subst hj;simp[Addr.add,go_sem]
    | 3,hj=>simp at hj;subst hj;simp[Addr.add,go_sem]
    | 4,hj=>simp at hj;subst hj;simp[Addr.add,go_sem]
    | 5,hj=>simp at hj;subst hj;simp[Addr.add,go_sem]
   case z3b=>intro u hu;simp at hu;rcases hu with rfl | rfl | rfl | rfl | rfl | rfl<;>rfl
   case z3c=>simp[maxLen];have:=HLB.o;omega
   case z3d=>have:=HLB.o;omega
   case z3e=>have:=HY2.o.own.lt;simp at this ⊢;omega
   intro u3 X3 ho3 hgr3 _ hwh3;obtain⟨b3,q3,rfl⟩:=za0 ho3;have HA3:Hi _:=(HY2.o.below ((Below.refl _ _).alloc (Nat.le_refl _) _)).apq (k:=0) oM (by first | exact e0 | rfl) hgr3 ho3 (by first | exact hwh3 | simpa using hwh3);have HM3:Hi _:=HA3.o.1;clear O3 ho3 hgr3 hwh3;clear c0 c1 c2 c3 c4 c5 d0 d1 d2 d3 d4 d5 wm gl ql gq qg;obtain⟨gl,ql,gq,qg,c0,c1,c2,c3,c4,c5,wm,d0,d1,d2,d3,d4,d5⟩:=HM3.o.as (y2:=.slice b1 (l.ar.length+1) q1) e0 e1 rfl e3 e4 e5;have O4:Hi ((X3.setCell (aD g 0) (Value.slice b3 (i+1) q3)).ownsRow (g+1) 3 1 (Value.slice a3 l.sy.length k3) l.sy.length (l.sy.map (λs=>Value.int .i64 s))):=zf3 (HA3.o.2.own.own 3 oM) (by first | exact e3 | rfl)
   go_wp2_with (at_builtin;refine wpList_append_own_at _ rfl _ _ 25 rfl (g+1) 3 iI (nI 0) 1 8 Tryz.underlying25 hI0 hI1 hI2 hI3 rfl dC _ _ _ rfl (O4.o.alloc _) ⟨X3.heap.size,0,none⟩ 1 1 [nI l.ar.length] rfl rfl ?z4a ?z4b ?z4c ?z4d ?z4e ?_)
   case z4a =>
    intro j u hj
    match j,hj with
    | 0,hj=>simp at hj;subst hj;simp[Addr.add,go_sem]
   case z4b=>intro u hu;simp at hu;subst hu;rfl
   case z4c=>simp[maxLen];have:=HLB.o;omega
   case z4d=>have:=HLB.o;omega
   case z4e=>have:=HA3.o.2.own.lt;simp at this ⊢;omega
   intro u4 X4 ho4 hgr4 _ hwh4;obtain⟨b4,q4,rfl⟩:=za0 ho4;have HA4:Hi _:=(HA3.o.2.below ((Below.refl _ _).alloc (Nat.le_refl _) _)).apq (k:=3) oM (by first | exact e3 | rfl) hgr4 ho4 (by first | exact hwh4 | simpa using hwh4);have HM4:Hi _:=HA4.o.1;clear O4 ho4 hgr4 hwh4;clear c0 c1 c2 c3 c4 c5 d0 d1 d2 d3 d4 d5 wm gl ql gq qg;obtain⟨gl,ql,gq,qg,c0,c1,c2,c3,c4,c5,wm,d0,d1,d2,d3,d4,d5⟩:=HM4.o.as (y0:=.slice b3 (i+1) q3) (y2:=.slice b1 (l.ar.length+1) q1) rfl e1 rfl e3 e4 e5;have O5:Hi ((X4.setCell (aD g 3) (Value.slice b4 (l.sy.length+1) q4)).ownsRow (g+1) 3 1 (Value.slice a5 l.so.length k5) l.so.length (l.so.map (λs=>Value.int .i64 s))):=zf3 (HA4.o.2.own.own 5 oM) (by first | exact e5 | rfl)
   go_wp2_with (at_builtin;refine wpList_append_own_at _ rfl _ _ 25 rfl (g+1) 3 iI (nI 0) 1 8 Tryz.underlying25 hI0 hI1 hI2 hI3 rfl dC _ _ _ rfl (O5.o.alloc _) ⟨X4.heap.size,0,none⟩ 1 1 [nI (-1)] rfl rfl ?z5a ?z5b ?z5c ?z5d ?z5e ?_)
   case z5a =>
    intro j u hj
    match j,hj with
    | 0,hj=>simp at hj;subst hj;simp[Addr.add,go_sem]
   case z5b=>intro u hu;simp at hu;subst hu;rfl
   case z5c=>simp[maxLen];have:=HLB.o;omega
   case z5d=>have:=HLB.o;omega
   case z5e=>have:=HA4.o.2.own.lt;simp at this ⊢;omega
   intro u5 X5 ho5 hgr5 _ hwh5;obtain⟨b5,q5,rfl⟩:=za0 ho5;have HA5:Hi _:=(HA4.o.2.below ((Below.refl _ _).alloc (Nat.le_refl _) _)).apq (k:=5) oM (by first | exact e5 | rfl) hgr5 ho5 (by first | exact hwh5 | simpa using hwh5);have HM5:Hi _:=HA5.o.1;clear O5 ho5 hgr5 hwh5;clear c0 c1 c2 c3 c4 c5 d0 d1 d2 d3 d4 d5 wm gl ql gq qg;obtain⟨gl,ql,gq,qg,c0,c1,c2,c3,c4,c5,wm,d0,d1,d2,d3,d4,d5⟩:=HM5.o.as (y0:=.slice b3 (i+1) q3) (y2:=.slice b1 (l.ar.length+1) q1) (y3:=.slice b4 (l.sy.length+1) q4) rfl e1 rfl rfl e4 e5;have HQ:Hi _:=HA5.o.2;go_wp2_with fail;go_roundw
   case rel =>
    refine⟨i+1,BE ns i n l,(AU (AU (AU (AU v 2 (Value.slice b1 (l.ar.length+1) q1)) 0 (Value.slice b3 (i+1) q3)) 3 (Value.slice b4 (l.sy.length+1) q4)) 5 (Value.slice b5 (l.so.length+1) q5)),by omega,by go_num,HST2,HQ.o.hb,HQ.o.six,HQ.o.own.congr (λk hk=>rfl) (λk hk=>?_) (λk hk=>?_),?_⟩
    ·have:k=0\/k=1\/k=2\/k=3\/k=4\/k=5:=oM
     rcases this with rfl | rfl | rfl | rfl | rfl | rfl<;>simp[AU,nOf,BE,HK1.o,HSY.o,hsite]
    ·have:k=0\/k=1\/k=2\/k=3\/k=4\/k=5:=oM
     rcases this with rfl | rfl | rfl | rfl | rfl | rfl<;>simp[AU,xOf,BE,zh0 ns i hlt2,HNN.o,CC,HK1.o,HSY.o,hsite]
    have:=HLB.o;unfold Hi;simp[BE,HK1.o,HSY.o,hsite];omega
   case measure=>simp[intOf];omega
  have hb0:(n.kind==0)=false:=by rw[beq_eq_false_iff_ne];exact hk0
  have hb1:(n.kind==1)=false:=by rw[beq_eq_false_iff_ne];exact hk1
  have HZ:Hi (¬n.kind=0/\¬n.kind=1):=⟨hk0,hk1⟩;clear hk0 hk1;obtain⟨nm,hnm⟩:∃x,BA n=x:=⟨_,rfl⟩
  have hnm3:nm=0\/nm=1\/nm=2:=by
   rw[<-hnm];unfold BA;repeat' split
   all_goals simp
  rcases hnm3 with rfl | rfl | rfl
  ·cases hsite:BN n
   ·go_wp2_with fail
    refine mq (zh1 n hnm _) λY1 hbY1=>?_;have HY1:Hi _:=HP0.o.below hbY1;clear hbY1;clear c0 c1 c2 c3 c4 c5 hnb m0 m1 m2 m3 m4 m5 hgl hgn hng;obtain⟨gl,ql,gq,qg,c0,c1,c2,c3,c4,c5,wm,d0,d1,d2,d3,d4,d5⟩:=HY1.o.mid.as e0 e1 e2 e3 e4 e5;go_wp2_with fail;refine mq (zh1 n hnm _) λY2 hbY2=>?_;have HY2:Hi _:=HY1.o.below hbY2;clear hbY2;clear c0 c1 c2 c3 c4 c5 d0 d1 d2 d3 d4 d5 wm gl ql gq qg;obtain⟨gl,ql,gq,qg,c0,c1,c2,c3,c4,c5,wm,d0,d1,d2,d3,d4,d5⟩:=HY2.o.mid.as e0 e1 e2 e3 e4 e5;go_wp2_with fail;refine mq (zk1 n hsite _) λY3 hbY3=>?_;have HY3:Hi _:=HY2.o.below hbY3;clear hbY3;clear c0 c1 c2 c3 c4 c5 d0 d1 d2 d3 d4 d5 wm gl ql gq qg;obtain⟨gl,ql,gq,qg,c0,c1,c2,c3,c4,c5,wm,d0,d1,d2,d3,d4,d5⟩:=HY3.o.mid.as e0 e1 e2 e3 e4 e5;have HSY:Hi (wa8 ns n l = -1):=by unfold Hi wa8;rw[if_neg HZ.o.1,if_neg HZ.o.2,if_neg (by rw[hnm];decide),if_neg (by rw[hnm];decide)]
    have O4:Hi (Y3.ownsRow (g+1) 78 6 (Value.slice a0 i k0) i ((ns.take i).flatMap CC)):=zf3 (HY3.o.own.own 0 oM) (by first | exact e0 | rfl)
    go_wp2_with (at_builtin;refine wpList_append_own_at _ rfl _ _ 29 rfl (g+1) 78 iN (.agg #[nI 0,nI 0,.string ⟨#[]⟩,nI 0,nI 0,nI 0]) 6 56 Tryz.underlying29 hN0 hN1 hN2 hN3 rfl dC _ _ _ rfl (O4.o.alloc _) ⟨Y3.heap.size,0,none⟩ 1 1 [nI n.depth,nI n.kind,.string n.name,nI n.num,nI n.op,nI n.pos] rfl rfl ?z4a ?z4b ?z4c ?z4d ?z4e ?_)
    case z4a =>
     intro j u hj
     match j,hj with
     | 0,hj=>simp at hj;subst hj;simp[Addr.add,go_sem]
     | 1,hj=>simp at hj;subst hj;simp[Addr.add,go_sem]
     | 2,hj=>simp at hj;subst hj;simp[Addr.add,go_sem]
     | 3,hj=>simp at hj;subst hj;simp[Addr.add,go_sem]
     | 4,hj=>simp at hj;subst hj;simp[Addr.add,go_sem]
     | 5,hj=>simp at hj;subst hj;simp[Addr.add,go_sem]
    case z4b=>intro u hu;simp at hu;rcases hu with rfl | rfl | rfl | rfl | rfl | rfl<;>rfl
    case z4c=>simp[maxLen];have:=HLB.o;omega
    case z4d=>have:=HLB.o;omega
    case z4e=>have:=HY3.o.own.lt;simp at this ⊢;omega
    intro u4 X4 ho4 hgr4 _ hwh4;obtain⟨b4,q4,rfl⟩:=za0 ho4;have HA4:Hi _:=(HY3.o.below ((Below.refl _ _).alloc (Nat.le_refl _) _)).apq (k:=0) oM (by first | exact e0 | rfl) hgr4 ho4 (by first | exact hwh4 | simpa using hwh4);have HM4:Hi _:=HA4.o.1;clear O4 ho4 hgr4 hwh4;clear c0 c1 c2 c3 c4 c5 d0 d1 d2 d3 d4 d5 wm gl ql gq qg;obtain⟨gl,ql,gq,qg,c0,c1,c2,c3,c4,c5,wm,d0,d1,d2,d3,d4,d5⟩:=HM4.o.as e0 e1 e2 e3 e4 e5;have O5:Hi ((X4.setCell (aD g 0) (Value.slice b4 (i+1) q4)).ownsRow (g+1) 3 1 (Value.slice a3 l.sy.length k3) l.sy.length (l.sy.map (λs=>Value.int .i64 s))):=zf3 (HA4.o.2.own.own 3 oM) (by first | exact e3 | rfl)
    go_wp2_with (at_builtin;refine wpList_append_own_at _ rfl _ _ 25 rfl (g+1) 3 iI (nI 0) 1 8 Tryz.underlying25 hI0 hI1 hI2 hI3 rfl dC _ _ _ rfl (O5.o.alloc _) ⟨X4.heap.size,0,none⟩ 1 1 [nI (-1)] rfl rfl ?z5a ?z5b ?z5c ?z5d ?z5e ?_)
    case z5a =>
     intro j u hj
     match j,hj with
     | 0,hj=>simp at hj;subst hj;simp[Addr.add,go_sem]
    case z5b=>intro u hu;simp at hu;subst hu;rfl
    case z5c=>simp[maxLen];have:=HLB.o;omega
    case z5d=>have:=HLB.o;omega
    case z5e=>have:=HA4.o.2.own.lt;simp at this ⊢;omega
    intro u5 X5 ho5 hgr5 _ hwh5;obtain⟨b5,q5,rfl⟩:=za0 ho5;have HA5:Hi _:=(HA4.o.2.below ((Below.refl _ _).alloc (Nat.le_refl _) _)).apq (k:=3) oM (by first | exact e3 | rfl) hgr5 ho5 (by first | exact hwh5 | simpa using hwh5);have HM5:Hi _:=HA5.o.1;clear O5 ho5 hgr5 hwh5;clear c0 c1 c2 c3 c4 c5 d0 d1 d2 d3 d4 d5 wm gl ql gq qg;obtain⟨gl,ql,gq,qg,c0,c1,c2,c3,c4,c5,wm,d0,d1,d2,d3,d4,d5⟩:=HM5.o.as (y0:=.slice b4 (i+1) q4) rfl e1 e2 e3 e4 e5;have O6:Hi ((X5.setCell (aD g 3) (Value.slice b5 (l.sy.length+1) q5)).ownsRow (g+1) 3 1 (Value.slice a5 l.so.length k5) l.so.length (l.so.map (λs=>Value.int .i64 s))):=zf3 (HA5.o.2.own.own 5 oM) (by first | exact e5 | rfl)
    go_wp2_with (at_builtin;refine wpList_append_own_at _ rfl _ _ 25 rfl (g+1) 3 iI (nI 0) 1 8 Tryz.underlying25 hI0 hI1 hI2 hI3 rfl dC _ _ _ rfl (O6.o.alloc _) ⟨X5.heap.size,0,none⟩ 1 1 [nI (-1)] rfl rfl ?z6a ?z6b ?z6c ?z6d ?z6e ?_)
    case z6a =>
     intro j u hj
     match j,hj with
     | 0,hj=>simp at hj;subst hj;simp[Addr.add,go_sem]
    case z6b=>intro u hu;simp at hu;subst hu;rfl
    case z6c=>simp[maxLen];have:=HLB.o;omega
    case z6d=>have:=HLB.o;omega
    case z6e=>have:=HA5.o.2.own.lt;simp at this ⊢;omega
    intro u6 X6 ho6 hgr6 _ hwh6;obtain⟨b6,q6,rfl⟩:=za0 ho6;have HA6:Hi _:=(HA5.o.2.below ((Below.refl _ _).alloc (Nat.le_refl _) _)).apq (k:=5) oM (by first | exact e5 | rfl) hgr6 ho6 (by first | exact hwh6 | simpa using hwh6);have HM6:Hi _:=HA6.o.1;clear O6 ho6 hgr6 hwh6;clear c0 c1 c2 c3 c4 c5 d0 d1 d2 d3 d4 d5 wm gl ql gq qg;obtain⟨gl,ql,gq,qg,c0,c1,c2,c3,c4,c5,wm,d0,d1,d2,d3,d4,d5⟩:=HM6.o.as (y0:=.slice b4 (i+1) q4) (y3:=.slice b5 (l.sy.length+1) q5) rfl e1 e2 rfl e4 e5;have HQ:Hi _:=HA6.o.2;go_wp2_with fail;go_roundw
    case rel =>
     refine⟨i+1,BE ns i n l,(AU (AU (AU v 0 (Value.slice b4 (i+1) q4)) 3 (Value.slice b5 (l.sy.length+1) q5)) 5 (Value.slice b6 (l.so.length+1) q6)),by omega,by go_num,HST2,HQ.o.hb,HQ.o.six,HQ.o.own.congr (λk hk=>rfl) (λk hk=>?_) (λk hk=>?_),?_⟩
     ·have:k=0\/k=1\/k=2\/k=3\/k=4\/k=5:=oM
      rcases this with rfl | rfl | rfl | rfl | rfl | rfl<;>simp[AU,nOf,BE,HZ.o.1,HZ.o.2,HSY.o,hsite]
     ·have:k=0\/k=1\/k=2\/k=3\/k=4\/k=5:=oM
      rcases this with rfl | rfl | rfl | rfl | rfl | rfl<;>simp[AU,xOf,BE,zh0 ns i hlt2,HNN.o,CC,HZ.o.1,HZ.o.2,HSY.o,hsite]
     have:=HLB.o;unfold Hi;simp[BE,HZ.o.1,HZ.o.2,HSY.o,hsite];omega
    case measure=>simp[intOf];omega
   go_wp2_with fail;refine mq (zh1 n hnm _) λY1 hbY1=>?_;have HY1:Hi _:=HP0.o.below hbY1;clear hbY1;clear c0 c1 c2 c3 c4 c5 hnb m0 m1 m2 m3 m4 m5 hgl hgn hng;obtain⟨gl,ql,gq,qg,c0,c1,c2,c3,c4,c5,wm,d0,d1,d2,d3,d4,d5⟩:=HY1.o.mid.as e0 e1 e2 e3 e4 e5;go_wp2_with fail;refine mq (zh1 n hnm _) λY2 hbY2=>?_;have HY2:Hi _:=HY1.o.below hbY2;clear hbY2;clear c0 c1 c2 c3 c4 c5 d0 d1 d2 d3 d4 d5 wm gl ql gq qg;obtain⟨gl,ql,gq,qg,c0,c1,c2,c3,c4,c5,wm,d0,d1,d2,d3,d4,d5⟩:=HY2.o.mid.as e0 e1 e2 e3 e4 e5;go_wp2_with fail;refine mq (zk1 n hsite _) λY3 hbY3=>?_;have HY3:Hi _:=HY2.o.below hbY3;clear hbY3;clear c0 c1 c2 c3 c4 c5 d0 d1 d2 d3 d4 d5 wm gl ql gq qg;obtain⟨gl,ql,gq,qg,c0,c1,c2,c3,c4,c5,wm,d0,d1,d2,d3,d4,d5⟩:=HY3.o.mid.as e0 e1 e2 e3 e4 e5;have O4:Hi (Y3.ownsRow (g+1) 3 1 (Value.slice a4 l.si.length k4) l.si.length (l.si.map (λs=>Value.int .i64 s))):=zf3 (HY3.o.own.own 4 oM) (by first | exact e4 | rfl)
   go_wp2_with (at_builtin;refine wpList_append_own_at _ rfl _ _ 25 rfl (g+1) 3 iI (nI 0) 1 8 Tryz.underlying25 hI0 hI1 hI2 hI3 rfl dC _ _ _ rfl (O4.o.alloc _) ⟨Y3.heap.size,0,none⟩ 1 1 [nI (i:Int)] rfl rfl ?z4a ?z4b ?z4c ?z4d ?z4e ?_)
   case z4a =>
    intro j u hj
    match j,hj with
    | 0,hj=>simp at hj;subst hj;simp[Addr.add,go_sem]
   case z4b=>intro u hu;simp at hu;subst hu;rfl
   case z4c=>simp[maxLen];have:=HLB.o;omega
   case z4d=>have:=HLB.o;omega
   case z4e=>have:=HY3.o.own.lt;simp at this ⊢;omega
   intro u4 X4 ho4 hgr4 _ hwh4;obtain⟨b4,q4,rfl⟩:=za0 ho4;have HA4:Hi _:=(HY3.o.below ((Below.refl _ _).alloc (Nat.le_refl _) _)).apq (k:=4) oM (by first | exact e4 | rfl) hgr4 ho4 (by first | exact hwh4 | simpa using hwh4);have HM4:Hi _:=HA4.o.1;clear O4 ho4 hgr4 hwh4;clear c0 c1 c2 c3 c4 c5 d0 d1 d2 d3 d4 d5 wm gl ql gq qg;obtain⟨gl,ql,gq,qg,c0,c1,c2,c3,c4,c5,wm,d0,d1,d2,d3,d4,d5⟩:=HM4.o.as e0 e1 e2 e3 e4 e5;have HSY:Hi (wa8 ns n l = -1):=by unfold Hi wa8;rw[if_neg HZ.o.1,if_neg HZ.o.2,if_neg (by rw[hnm];decide),if_neg (by rw[hnm];decide)]
   have O5:Hi ((X4.setCell (aD g 4) (Value.slice b4 (l.si.length+1) q4)).ownsRow (g+1) 78 6 (Value.slice a0 i k0) i ((ns.take i).flatMap CC)):=zf3 (HA4.o.2.own.own 0 oM) (by first | exact e0 | rfl)
   go_wp2_with (at_builtin;refine wpList_append_own_at _ rfl _ _ 29 rfl (g+1) 78 iN (.agg #[nI 0,nI 0,.string ⟨#[]⟩,nI 0,nI 0,nI 0]) 6 56 Tryz.underlying29 hN0 hN1 hN2 hN3 rfl dC _ _ _ rfl (O5.o.alloc _) ⟨X4.heap.size,0,none⟩ 1 1 [nI n.depth,nI n.kind,.string n.name,nI n.num,nI n.op,nI n.pos] rfl rfl ?z5a ?z5b ?z5c ?z5d ?z5e ?_)
   case z5a =>
    intro j u hj
    match j,hj with
    | 0,hj=>simp at hj;subst hj;simp[Addr.add,go_sem]
    | 1,hj=>simp at hj;subst hj;simp[Addr.add,go_sem]
    | 2,hj=>simp at hj;subst hj;simp[Addr.add,go_sem]
    | 3,hj=>simp at hj;subst hj;simp[Addr.add,go_sem]
    | 4,hj=>simp at hj;subst hj;simp[Addr.add,go_sem]
    | 5,hj=>simp at hj;subst hj;simp[Addr.add,go_sem]
   case z5b=>intro u hu;simp at hu;rcases hu with rfl | rfl | rfl | rfl | rfl | rfl<;>rfl
   case z5c=>simp[maxLen];have:=HLB.o;omega
   case z5d=>have:=HLB.o;omega
   case z5e=>have:=HA4.o.2.own.lt;simp at this ⊢;omega
   intro u5 X5 ho5 hgr5 _ hwh5;obtain⟨b5,q5,rfl⟩:=za0 ho5;have HA5:Hi _:=(HA4.o.2.below ((Below.refl _ _).alloc (Nat.le_refl _) _)).apq (k:=0) oM (by first | exact e0 | rfl) hgr5 ho5 (by first | exact hwh5 | simpa using hwh5);have HM5:Hi _:=HA5.o.1;clear O5 ho5 hgr5 hwh5;clear c0 c1 c2 c3 c4 c5 d0 d1 d2 d3 d4 d5 wm gl ql gq qg;obtain⟨gl,ql,gq,qg,c0,c1,c2,c3,c4,c5,wm,d0,d1,d2,d3,d4,d5⟩:=HM5.o.as (y4:=.slice b4 (l.si.length+1) q4) e0 e1 e2 e3 rfl e5;have O6:Hi ((X5.setCell (aD g 0) (Value.slice b5 (i+1) q5)).ownsRow (g+1) 3 1 (Value.slice a3 l.sy.length k3) l.sy.length (l.sy.map (λs=>Value.int .i64 s))):=zf3 (HA5.o.2.own.own 3 oM) (by first | exact e3 | rfl)
   go_wp2_with (at_builtin;refine wpList_append_own_at _ rfl _ _ 25 rfl (g+1) 3 iI (nI 0) 1 8 Tryz.underlying25 hI0 hI1 hI2 hI3 rfl dC _ _ _ rfl (O6.o.alloc _) ⟨X5.heap.size,0,none⟩ 1 1 [nI (-1)] rfl rfl ?z6a ?z6b ?z6c ?z6d ?z6e ?_)
   case z6a =>
    intro j u hj
    match j,hj with
    | 0,hj=>simp at hj;subst hj;simp[Addr.add,go_sem]
   case z6b=>intro u hu;simp at hu;subst hu;rfl
   case z6c=>simp[maxLen];have:=HLB.o;omega
   case z6d=>have:=HLB.o;omega
   case z6e=>have:=HA5.o.2.own.lt;simp at this ⊢;omega
   intro u6 X6 ho6 hgr6 _ hwh6;obtain⟨b6,q6,rfl⟩:=za0 ho6;have HA6:Hi _:=(HA5.o.2.below ((Below.refl _ _).alloc (Nat.le_refl _) _)).apq (k:=3) oM (by first | exact e3 | rfl) hgr6 ho6 (by first | exact hwh6 | simpa using hwh6);have HM6:Hi _:=HA6.o.1;clear O6 ho6 hgr6 hwh6;clear c0 c1 c2 c3 c4 c5 d0 d1 d2 d3 d4 d5 wm gl ql gq qg;obtain⟨gl,ql,gq,qg,c0,c1,c2,c3,c4,c5,wm,d0,d1,d2,d3,d4,d5⟩:=HM6.o.as (y0:=.slice b5 (i+1) q5) (y4:=.slice b4 (l.si.length+1) q4) rfl e1 e2 e3 rfl e5;have O7:Hi ((X6.setCell (aD g 3) (Value.slice b6 (l.sy.length+1) q6)).ownsRow (g+1) 3 1 (Value.slice a5 l.so.length k5) l.so.length (l.so.map (λs=>Value.int .i64 s))):=zf3 (HA6.o.2.own.own 5 oM) (by first | exact e5 | rfl)
   go_wp2_with (at_builtin;refine wpList_append_own_at _ rfl _ _ 25 rfl (g+1) 3 iI (nI 0) 1 8 Tryz.underlying25 hI0 hI1 hI2 hI3 rfl dC _ _ _ rfl (O7.o.alloc _) ⟨X6.heap.size,0,none⟩ 1 1 [nI l.si.length] rfl rfl ?z7a ?z7b ?z7c ?z7d ?z7e ?_)
   case z7a =>
    intro j u hj
    match j,hj with
    | 0,hj=>simp at hj;subst hj;simp[Addr.add,go_sem]
   case z7b=>intro u hu;simp at hu;subst hu;rfl
   case z7c=>simp[maxLen];have:=HLB.o;omega
   case z7d=>have:=HLB.o;omega
   case z7e=>have:=HA6.o.2.own.lt;simp at this ⊢;omega
   intro u7 X7 ho7 hgr7 _ hwh7;obtain⟨b7,q7,rfl⟩:=za0 ho7;have HA7:Hi _:=(HA6.o.2.below ((Below.refl _ _).alloc (Nat.le_refl _) _)).apq (k:=5) oM (by first | exact e5 | rfl) hgr7 ho7 (by first | exact hwh7 | simpa using hwh7);have HM7:Hi _:=HA7.o.1;clear O7 ho7 hgr7 hwh7;clear c0 c1 c2 c3 c4 c5 d0 d1 d2 d3 d4 d5 wm gl ql gq qg;obtain⟨gl,ql,gq,qg,c0,c1,c2,c3,c4,c5,wm,d0,d1,d2,d3,d4,d5⟩:=HM7.o.as (y0:=.slice b5 (i+1) q5) (y3:=.slice b6 (l.sy.length+1) q6) (y4:=.slice b4 (l.si.length+1) q4) rfl e1 e2 rfl rfl e5;have HQ:Hi _:=HA7.o.2;go_wp2_with fail;go_roundw
   case rel =>
    refine⟨i+1,BE ns i n l,(AU (AU (AU (AU v 4 (Value.slice b4 (l.si.length+1) q4)) 0 (Value.slice b5 (i+1) q5)) 3 (Value.slice b6 (l.sy.length+1) q6)) 5 (Value.slice b7 (l.so.length+1) q7)),by omega,by go_num,HST2,HQ.o.hb,HQ.o.six,HQ.o.own.congr (λk hk=>rfl) (λk hk=>?_) (λk hk=>?_),?_⟩
    ·have:k=0\/k=1\/k=2\/k=3\/k=4\/k=5:=oM
     rcases this with rfl | rfl | rfl | rfl | rfl | rfl<;>simp[AU,nOf,BE,HZ.o.1,HZ.o.2,HSY.o,hsite]
    ·have:k=0\/k=1\/k=2\/k=3\/k=4\/k=5:=oM
     rcases this with rfl | rfl | rfl | rfl | rfl | rfl<;>simp[AU,xOf,BE,zh0 ns i hlt2,HNN.o,CC,HZ.o.1,HZ.o.2,HSY.o,hsite]
    have:=HLB.o;unfold Hi;simp[BE,HZ.o.1,HZ.o.2,HSY.o,hsite];omega
   case measure=>simp[intOf];omega
  ·have hsite:BN n=false:=(zw3 n).1 hnm
   go_wp2_with fail;refine mq (zh1 n hnm _) λY1 hbY1=>?_;have HY1:Hi _:=HP0.o.below hbY1;clear hbY1;clear c0 c1 c2 c3 c4 c5 hnb m0 m1 m2 m3 m4 m5 hgl hgn hng;obtain⟨gl,ql,gq,qg,c0,c1,c2,c3,c4,c5,wm,d0,d1,d2,d3,d4,d5⟩:=HY1.o.mid.as e0 e1 e2 e3 e4 e5;go_wp2_with fail;refine mq (HD0.o _ HY1.o.hb) λY2 hY2=>?_;subst hY2;go_wp2_with fail;refine mq (zk1 n hsite _) λY3 hbY3=>?_;have HY3:Hi _:=HY1.o.below hbY3;clear hbY3;clear c0 c1 c2 c3 c4 c5 d0 d1 d2 d3 d4 d5 wm gl ql gq qg;obtain⟨gl,ql,gq,qg,c0,c1,c2,c3,c4,c5,wm,d0,d1,d2,d3,d4,d5⟩:=HY3.o.mid.as e0 e1 e2 e3 e4 e5;have HSY:Hi (wa8 ns n l=ds):=by unfold Hi wa8;rw[if_neg HZ.o.1,if_neg HZ.o.2,if_pos hnm];exact HDS.o
   have O4:Hi (Y3.ownsRow (g+1) 78 6 (Value.slice a0 i k0) i ((ns.take i).flatMap CC)):=zf3 (HY3.o.own.own 0 oM) (by first | exact e0 | rfl)
   go_wp2_with (at_builtin;refine wpList_append_own_at _ rfl _ _ 29 rfl (g+1) 78 iN (.agg #[nI 0,nI 0,.string ⟨#[]⟩,nI 0,nI 0,nI 0]) 6 56 Tryz.underlying29 hN0 hN1 hN2 hN3 rfl dC _ _ _ rfl (O4.o.alloc _) ⟨Y3.heap.size,0,none⟩ 1 1 [nI n.depth,nI n.kind,.string n.name,nI n.num,nI n.op,nI n.pos] rfl rfl ?z4a ?z4b ?z4c ?z4d ?z4e ?_)
   case z4a =>
    intro j u hj
    match j,hj with
    | 0,hj=>simp at hj;subst hj;simp[Addr.add,go_sem]
    | 1,hj=>simp at hj;subst hj;simp[Addr.add,go_sem]
    | 2,hj=>simp at hj;subst hj;simp[Addr.add,go_sem]
    | 3,hj=>simp at hj;subst hj;simp[Addr.add,go_sem]
    | 4,hj=>simp at hj;subst hj;simp[Addr.add,go_sem]
    | 5,hj=>simp at hj;subst hj;simp[Addr.add,go_sem]
   case z4b=>intro u hu;simp at hu;rcases hu with rfl | rfl | rfl | rfl | rfl | rfl<;>rfl
   case z4c=>simp[maxLen];have:=HLB.o;omega
   case z4d=>have:=HLB.o;omega
   case z4e=>have:=HY3.o.own.lt;simp at this ⊢;omega
   intro u4 X4 ho4 hgr4 _ hwh4;obtain⟨b4,q4,rfl⟩:=za0 ho4;have HA4:Hi _:=(HY3.o.below ((Below.refl _ _).alloc (Nat.le_refl _) _)).apq (k:=0) oM (by first | exact e0 | rfl) hgr4 ho4 (by first | exact hwh4 | simpa using hwh4);have HM4:Hi _:=HA4.o.1;clear O4 ho4 hgr4 hwh4;clear c0 c1 c2 c3 c4 c5 d0 d1 d2 d3 d4 d5 wm gl ql gq qg;obtain⟨gl,ql,gq,qg,c0,c1,c2,c3,c4,c5,wm,d0,d1,d2,d3,d4,d5⟩:=HM4.o.as e0 e1 e2 e3 e4 e5;have O5:Hi ((X4.setCell (aD g 0) (Value.slice b4 (i+1) q4)).ownsRow (g+1) 3 1 (Value.slice a3 l.sy.length k3) l.sy.length (l.sy.map (λs=>Value.int .i64 s))):=zf3 (HA4.o.2.own.own 3 oM) (by first | exact e3 | rfl)
   go_wp2_with (at_builtin;refine wpList_append_own_at _ rfl _ _ 25 rfl (g+1) 3 iI (nI 0) 1 8 Tryz.underlying25 hI0 hI1 hI2 hI3 rfl dC _ _ _ rfl (O5.o.alloc _) ⟨X4.heap.size,0,none⟩ 1 1 [nI ds] rfl rfl ?z5a ?z5b ?z5c ?z5d ?z5e ?_)
   case z5a =>
    intro j u hj
    match j,hj with
    | 0,hj=>simp at hj;subst hj;simp[Addr.add,go_sem]
   case z5b=>intro u hu;simp at hu;subst hu;rfl
   case z5c=>simp[maxLen];have:=HLB.o;omega
   case z5d=>have:=HLB.o;omega
   case z5e=>have:=HA4.o.2.own.lt;simp at this ⊢;omega
   intro u5 X5 ho5 hgr5 _ hwh5;obtain⟨b5,q5,rfl⟩:=za0 ho5;have HA5:Hi _:=(HA4.o.2.below ((Below.refl _ _).alloc (Nat.le_refl _) _)).apq (k:=3) oM (by first | exact e3 | rfl) hgr5 ho5 (by first | exact hwh5 | simpa using hwh5);have HM5:Hi _:=HA5.o.1;clear O5 ho5 hgr5 hwh5;clear c0 c1 c2 c3 c4 c5 d0 d1 d2 d3 d4 d5 wm gl ql gq qg;obtain⟨gl,ql,gq,qg,c0,c1,c2,c3,c4,c5,wm,d0,d1,d2,d3,d4,d5⟩:=HM5.o.as (y0:=.slice b4 (i+1) q4) rfl e1 e2 e3 e4 e5;have O6:Hi ((X5.setCell (aD g 3) (Value.slice b5 (l.sy.length+1) q5)).ownsRow (g+1) 3 1 (Value.slice a5 l.so.length k5) l.so.length (l.so.map (λs=>Value.int .i64 s))):=zf3 (HA5.o.2.own.own 5 oM) (by first | exact e5 | rfl)
   go_wp2_with (at_builtin;refine wpList_append_own_at _ rfl _ _ 25 rfl (g+1) 3 iI (nI 0) 1 8 Tryz.underlying25 hI0 hI1 hI2 hI3 rfl dC _ _ _ rfl (O6.o.alloc _) ⟨X5.heap.size,0,none⟩ 1 1 [nI (-1)] rfl rfl ?z6a ?z6b ?z6c ?z6d ?z6e ?_)
   case z6a =>
    intro j u hj
    match j,hj with
    | 0,hj=>simp at hj;subst hj;simp[Addr.add,go_sem]
   case z6b=>intro u hu;simp at hu;subst hu;rfl
   case z6c=>simp[maxLen];have:=HLB.o;omega
   case z6d=>have:=HLB.o;omega
   case z6e=>have:=HA5.o.2.own.lt;simp at this ⊢;omega
   intro u6 X6 ho6 hgr6 _ hwh6;obtain⟨b6,q6,rfl⟩:=za0 ho6;have HA6:Hi _:=(HA5.o.2.below ((Below.refl _ _).alloc (Nat.le_refl _) _)).apq (k:=5) oM (by first | exact e5 | rfl) hgr6 ho6 (by first | exact hwh6 | simpa using hwh6);have HM6:Hi _:=HA6.o.1;clear O6 ho6 hgr6 hwh6;clear c0 c1 c2 c3 c4 c5 d0 d1 d2 d3 d4 d5 wm gl ql gq qg;obtain⟨gl,ql,gq,qg,c0,c1,c2,c3,c4,c5,wm,d0,d1,d2,d3,d4,d5⟩:=HM6.o.as (y0:=.slice b4 (i+1) q4) (y3:=.slice b5 (l.sy.length+1) q5) rfl e1 e2 rfl e4 e5;have HQ:Hi _:=HA6.o.2;go_wp2_with fail;go_roundw
   case rel =>
    refine⟨i+1,BE ns i n l,(AU (AU (AU v 0 (Value.slice b4 (i+1) q4)) 3 (Value.slice b5 (l.sy.length+1) q5)) 5 (Value.slice b6 (l.so.length+1) q6)),by omega,by go_num,HST2,HQ.o.hb,HQ.o.six,HQ.o.own.congr (λk hk=>rfl) (λk hk=>?_) (λk hk=>?_),?_⟩
    ·have:k=0\/k=1\/k=2\/k=3\/k=4\/k=5:=oM
     rcases this with rfl | rfl | rfl | rfl | rfl | rfl<;>simp[AU,nOf,BE,HZ.o.1,HZ.o.2,HSY.o,hsite]
    ·have:k=0\/k=1\/k=2\/k=3\/k=4\/k=5:=oM
     rcases this with rfl | rfl | rfl | rfl | rfl | rfl<;>simp[AU,xOf,BE,zh0 ns i hlt2,HNN.o,CC,HZ.o.1,HZ.o.2,HSY.o,hsite]
    have:=HLB.o;unfold Hi;simp[BE,HZ.o.1,HZ.o.2,HSY.o,hsite];omega
   case measure=>simp[intOf];omega
  have hsite:BN n=true:=(zw3 n).2 hnm;go_wp2_with fail;refine mq (zh1 n hnm _) λY1 hbY1=>?_;have HY1:Hi _:=HP0.o.below hbY1;clear hbY1;clear c0 c1 c2 c3 c4 c5 hnb m0 m1 m2 m3 m4 m5 hgl hgn hng;obtain⟨gl,ql,gq,qg,c0,c1,c2,c3,c4,c5,wm,d0,d1,d2,d3,d4,d5⟩:=HY1.o.mid.as e0 e1 e2 e3 e4 e5;go_wp2_with fail;refine mq (zh1 n hnm _) λY2 hbY2=>?_;have HY2:Hi _:=HY1.o.below hbY2;clear hbY2;clear c0 c1 c2 c3 c4 c5 d0 d1 d2 d3 d4 d5 wm gl ql gq qg;obtain⟨gl,ql,gq,qg,c0,c1,c2,c3,c4,c5,wm,d0,d1,d2,d3,d4,d5⟩:=HY2.o.mid.as e0 e1 e2 e3 e4 e5;go_wp2_with fail;refine mq (HD1.o _ HY2.o.hb) λY3 hY3=>?_;subst hY3;go_wp2_with fail;refine mq (zk1 n hsite _) λY4 hbY4=>?_;have HY4:Hi _:=HY2.o.below hbY4;clear hbY4;clear c0 c1 c2 c3 c4 c5 d0 d1 d2 d3 d4 d5 wm gl ql gq qg;obtain⟨gl,ql,gq,qg,c0,c1,c2,c3,c4,c5,wm,d0,d1,d2,d3,d4,d5⟩:=HY4.o.mid.as e0 e1 e2 e3 e4 e5;have O5:Hi (Y4.ownsRow (g+1) 3 1 (Value.slice a4 l.si.length k4) l.si.length (l.si.map (λs=>Value.int .i64 s))):=zf3 (HY4.o.own.own 4 oM) (by first | exact e4 | rfl)
  go_wp2_with (at_builtin;refine wpList_append_own_at _ rfl _ _ 25 rfl (g+1) 3 iI (nI 0) 1 8 Tryz.underlying25 hI0 hI1 hI2 hI3 rfl dC _ _ _ rfl (O5.o.alloc _) ⟨Y4.heap.size,0,none⟩ 1 1 [nI (i:Int)] rfl rfl ?z5a ?z5b ?z5c ?z5d ?z5e ?_)
  case z5a =>
   intro j u hj
   match j,hj with
   | 0,hj=>simp at hj;subst hj;simp[Addr.add,go_sem]
  case z5b=>intro u hu;simp at hu;subst hu;rfl
  case z5c=>simp[maxLen];have:=HLB.o;omega
  case z5d=>have:=HLB.o;omega
  case z5e=>have:=HY4.o.own.lt;simp at this ⊢;omega
  intro u5 X5 ho5 hgr5 _ hwh5;obtain⟨b5,q5,rfl⟩:=za0 ho5;have HA5:Hi _:=(HY4.o.below ((Below.refl _ _).alloc (Nat.le_refl _) _)).apq (k:=4) oM (by first | exact e4 | rfl) hgr5 ho5 (by first | exact hwh5 | simpa using hwh5);have HM5:Hi _:=HA5.o.1;clear O5 ho5 hgr5 hwh5;clear c0 c1 c2 c3 c4 c5 d0 d1 d2 d3 d4 d5 wm gl ql gq qg;obtain⟨gl,ql,gq,qg,c0,c1,c2,c3,c4,c5,wm,d0,d1,d2,d3,d4,d5⟩:=HM5.o.as e0 e1 e2 e3 e4 e5;have HSY:Hi (wa8 ns n l=da):=by unfold Hi wa8;rw[if_neg HZ.o.1,if_neg HZ.o.2,if_neg (by rw[hnm];decide),if_pos hnm];exact HDA.o
  have O6:Hi ((X5.setCell (aD g 4) (Value.slice b5 (l.si.length+1) q5)).ownsRow (g+1) 78 6 (Value.slice a0 i k0) i ((ns.take i).flatMap CC)):=zf3 (HA5.o.2.own.own 0 oM) (by first | exact e0 | rfl)
  go_wp2_with (at_builtin;refine wpList_append_own_at _ rfl _ _ 29 rfl (g+1) 78 iN (.agg #[nI 0,nI 0,.string ⟨#[]⟩,nI 0,nI 0,nI 0]) 6 56 Tryz.underlying29 hN0 hN1 hN2 hN3 rfl dC _ _ _ rfl (O6.o.alloc _) ⟨X5.heap.size,0,none⟩ 1 1 [nI n.depth,nI n.kind,.string n.name,nI n.num,nI n.op,nI n.pos] rfl rfl ?z6a ?z6b ?z6c ?z6d ?z6e ?_)
  case z6a =>
   intro j u hj
   match j,hj with
   | 0,hj=>simp at hj;subst hj;simp[Addr.add,go_sem]
   | 1,hj=>simp at hj;subst hj;simp[Addr.add,go_sem]
   | 2,hj=>simp at hj;subst hj;simp[Addr.add,go_sem]
   | 3,hj=>simp at hj;subst hj;simp[Addr.add,go_sem]
   | 4,hj=>simp at hj;subst hj;simp[Addr.add,go_sem]
   | 5,hj=>simp at hj;subst hj;simp[Addr.add,go_sem]
  case z6b=>intro u hu;simp at hu;rcases hu with rfl | rfl | rfl | rfl | rfl | rfl<;>rfl
  case z6c=>simp[maxLen];have:=HLB.o;omega
  case z6d=>have:=HLB.o;omega
  case z6e=>have:=HA5.o.2.own.lt;simp at this ⊢;omega
  intro u6 X6 ho6 hgr6 _ hwh6;obtain⟨b6,q6,rfl⟩:=za0 ho6;have HA6:Hi _:=(HA5.o.2.below ((Below.refl _ _).alloc (Nat.le_refl _) _)).apq (k:=0) oM (by first | exact e0 | rfl) hgr6 ho6 (by first | exact hwh6 | simpa using hwh6);have HM6:Hi _:=HA6.o.1;clear O6 ho6 hgr6 hwh6;clear c0 c1 c2 c3 c4 c5 d0 d1 d2 d3 d4 d5 wm gl ql gq qg;obtain⟨gl,ql,gq,qg,c0,c1,c2,c3,c4,c5,wm,d0,d1,d2,d3,d4,d5⟩:=HM6.o.as (y4:=.slice b5 (l.si.length+1) q5) e0 e1 e2 e3 rfl e5;have O7:Hi ((X6.setCell (aD g 0) (Value.slice b6 (i+1) q6)).ownsRow (g+1) 3 1 (Value.slice a3 l.sy.length k3) l.sy.length (l.sy.map (λs=>Value.int .i64 s))):=zf3 (HA6.o.2.own.own 3 oM) (by first | exact e3 | rfl)
  go_wp2_with (at_builtin;refine wpList_append_own_at _ rfl _ _ 25 rfl (g+1) 3 iI (nI 0) 1 8 Tryz.underlying25 hI0 hI1 hI2 hI3 rfl dC _ _ _ rfl (O7.o.alloc _) ⟨X6.heap.size,0,none⟩ 1 1 [nI da] rfl rfl ?z7a ?z7b ?z7c ?z7d ?z7e ?_)
  case z7a =>
   intro j u hj
   match j,hj with
   | 0,hj=>simp at hj;subst hj;simp[Addr.add,go_sem]
  case z7b=>intro u hu;simp at hu;subst hu;rfl
  case z7c=>simp[maxLen];have:=HLB.o;omega
  case z7d=>have:=HLB.o;omega
  case z7e=>have:=HA6.o.2.own.lt;simp at this ⊢;omega
  intro u7 X7 ho7 hgr7 _ hwh7;obtain⟨b7,q7,rfl⟩:=za0 ho7;have HA7:Hi _:=(HA6.o.2.below ((Below.refl _ _).alloc (Nat.le_refl _) _)).apq (k:=3) oM (by first | exact e3 | rfl) hgr7 ho7 (by first | exact hwh7 | simpa using hwh7);have HM7:Hi _:=HA7.o.1;clear O7 ho7 hgr7 hwh7;clear c0 c1 c2 c3 c4 c5 d0 d1 d2 d3 d4 d5 wm gl ql gq qg;obtain⟨gl,ql,gq,qg,c0,c1,c2,c3,c4,c5,wm,d0,d1,d2,d3,d4,d5⟩:=HM7.o.as (y0:=.slice b6 (i+1) q6) (y4:=.slice b5 (l.si.length+1) q5) rfl e1 e2 e3 rfl e5;have O8:Hi ((X7.setCell (aD g 3) (Value.slice b7 (l.sy.length+1) q7)).ownsRow (g+1) 3 1 (Value.slice a5 l.so.length k5) l.so.length (l.so.map (λs=>Value.int .i64 s))):=zf3 (HA7.o.2.own.own 5 oM) (by first | exact e5 | rfl)
  go_wp2_with (at_builtin;refine wpList_append_own_at _ rfl _ _ 25 rfl (g+1) 3 iI (nI 0) 1 8 Tryz.underlying25 hI0 hI1 hI2 hI3 rfl dC _ _ _ rfl (O8.o.alloc _) ⟨X7.heap.size,0,none⟩ 1 1 [nI l.si.length] rfl rfl ?z8a ?z8b ?z8c ?z8d ?z8e ?_)
  case z8a =>
   intro j u hj
   match j,hj with
   | 0,hj=>simp at hj;subst hj;simp[Addr.add,go_sem]
  case z8b=>intro u hu;simp at hu;subst hu;rfl
  case z8c=>simp[maxLen];have:=HLB.o;omega
  case z8d=>have:=HLB.o;omega
  case z8e=>have:=HA7.o.2.own.lt;simp at this ⊢;omega
  intro u8 X8 ho8 hgr8 _ hwh8;obtain⟨b8,q8,rfl⟩:=za0 ho8;have HA8:Hi _:=(HA7.o.2.below ((Below.refl _ _).alloc (Nat.le_refl _) _)).apq (k:=5) oM (by first | exact e5 | rfl) hgr8 ho8 (by first | exact hwh8 | simpa using hwh8);have HM8:Hi _:=HA8.o.1;clear O8 ho8 hgr8 hwh8;clear c0 c1 c2 c3 c4 c5 d0 d1 d2 d3 d4 d5 wm gl ql gq qg;obtain⟨gl,ql,gq,qg,c0,c1,c2,c3,c4,c5,wm,d0,d1,d2,d3,d4,d5⟩:=HM8.o.as (y0:=.slice b6 (i+1) q6) (y3:=.slice b7 (l.sy.length+1) q7) (y4:=.slice b5 (l.si.length+1) q5) rfl e1 e2 rfl rfl e5;have HQ:Hi _:=HA8.o.2;go_wp2_with fail;go_roundw
  case rel =>
   refine⟨i+1,BE ns i n l,(AU (AU (AU (AU v 4 (Value.slice b5 (l.si.length+1) q5)) 0 (Value.slice b6 (i+1) q6)) 3 (Value.slice b7 (l.sy.length+1) q7)) 5 (Value.slice b8 (l.so.length+1) q8)),by omega,by go_num,HST2,HQ.o.hb,HQ.o.six,HQ.o.own.congr (λk hk=>rfl) (λk hk=>?_) (λk hk=>?_),?_⟩
   ·have:k=0\/k=1\/k=2\/k=3\/k=4\/k=5:=oM
    rcases this with rfl | rfl | rfl | rfl | rfl | rfl<;>simp[AU,nOf,BE,HZ.o.1,HZ.o.2,HSY.o,hsite]
   ·have:k=0\/k=1\/k=2\/k=3\/k=4\/k=5:=oM
    rcases this with rfl | rfl | rfl | rfl | rfl | rfl<;>simp[AU,xOf,BE,zh0 ns i hlt2,HNN.o,CC,HZ.o.1,HZ.o.2,HSY.o,hsite]
   have:=HLB.o;unfold Hi;simp[BE,HZ.o.1,HZ.o.2,HSY.o,hsite];omega
  case measure=>simp[intOf];omega
 have HL:Hi (AC ns=(0,0,l)):=by unfold Hi;rw[HE.o,hr.o,List.drop_of_length_le (by omega)];rfl
 have HEI:Hi (i=ns.length):=by unfold Hi;omega
 obtain⟨z1,c0,c1,c2,c3,c4,c5⟩:=HX.o.pc;have wf:=HX.o.warm;have p0:=HO.o.cell 0 oM;have p1:=HO.o.cell 1 oM;have p2:=HO.o.cell 2 oM;have p3:=HO.o.cell 3 oM;have p4:=HO.o.cell 4 oM;have p5:=HO.o.cell 5 oM;obtain⟨a0,k0,e0⟩:=za0 (show wr.ownsRow (g+1) 78 6 (v 0) i _ from HO.o.own 0 oM);obtain⟨a1,k1,e1⟩:=za0 (show wr.ownsRow (g+1) 9 1 (v 1) l.sc.length _ from HO.o.own 1 oM);obtain⟨a2,k2,e2⟩:=za0 (show wr.ownsRow (g+1) 112 2 (v 2) l.ar.length _ from HO.o.own 2 oM);obtain⟨a3,k3,e3⟩:=za0 (show wr.ownsRow (g+1) 3 1 (v 3) l.sy.length _ from HO.o.own 3 oM);obtain⟨a4,k4,e4⟩:=za0 (show wr.ownsRow (g+1) 3 1 (v 4) l.si.length _ from HO.o.own 4 oM);obtain⟨a5,k5,e5⟩:=za0 (show wr.ownsRow (g+1) 3 1 (v 5) l.so.length _ from HO.o.own 5 oM);rw[e0]at p0;rw[e1]at p1;rw[e2]at p2;rw[e3]at p3;rw[e4]at p4;rw[e5]at p5;have hgn:¬g=w.heap.size:=by have:=hlo;rw[<-HG.o]at this;omega
 have hng:¬w.heap.size=g:=λe=>hgn e.symm;have hgl:g<wr.heap.size:=lL_ HO.o.gB HO.o.lt;clear hr;go_wp2_with fail
 try simp only[Exit.inBlock,Exit.then]
 refine bodyPost_ret (zc6 rfl _ _ w.heap.size 33 _ (0,0) _ rfl (zc9 HX.o.heap _ _ _ _ _ _) Tryz.underlying33 rfl Tryz.info33) rfl ?_;rw[HL.o];refine⟨v,by rw[e0,e1,e2,e3,e4,e5];rfl,zc8 HB.o (Nat.le_refl _) _ _ _ _ _ _,λ_=>⟨λk hk=>?_,HO.o.apart⟩,λh'=>(h' rfl).elim⟩;obtain⟨vk,hvk⟩:∃x,v k=x:=⟨_,rfl⟩;have ho:=HO.o.own k hk;rw[hvk]at ho ⊢;have hw:=zI9 ho (show w.heap.size<g+1 by have:=hlo;rw[<-HG.o]at this;omega) (v 0) (v 1) (v 2) (v 3) (v 4) (v 5);rw[e0,e1,e2,e3,e4,e5]at hw;rw[<-HEI.o];exact hw
end Go.Proofs.YtpongdpnbclchaaGreatDoor
