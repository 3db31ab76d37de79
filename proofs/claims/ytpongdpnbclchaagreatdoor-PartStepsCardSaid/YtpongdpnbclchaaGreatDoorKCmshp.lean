import Derived.Test.YtpongdpnbclchaaGreatDoorKCreq
set_option maxHeartbeats 8000000
set_option linter.all false
namespace Go.Proofs.YtpongdpnbclchaaGreatDoor
variable{n:Nd}{ns:List Nd}{v v1 v2 v3 v4 v5:Value}{w w1:World}
section
open Go.RowKit
theorem wi5.below{l:List ByteArray}(h:wi5 w v l)(hb:Below w.heap.size w w1):wi5 w1 v l:=by obtain⟨z,ao,cap,e,k⟩:=h;exact⟨z,ao,cap,e,k.imp id (λ⟨b,o,e,s⟩=>⟨b,o,e,s.below hb⟩)⟩
theorem wd9.below{l:List Int}(h:wd9 w v l)(hb:Below w.heap.size w w1):wd9 w1 v l:=by obtain⟨z,ao,cap,e,k⟩:=h;exact⟨z,ao,cap,e,k.imp id (λ⟨b,o,e,s⟩=>⟨b,o,e,s.below hb⟩)⟩
theorem wi7.below{l:List (ByteArray×Int)}(h:wi7 w v l)(hb:Below w.heap.size w w1):wi7 w1 v l:=by obtain⟨z,ao,cap,e,k⟩:=h;exact⟨z,ao,cap,e,k.imp id (λ⟨b,o,e,s⟩=>⟨b,o,e,s.below hb⟩)⟩
structure Ls where
 sc:List ByteArray
 ar:List (ByteArray×Int)
 sy:List Int
 si:List Int
 so:List Int
structure wj7(w:World)(v1 v2 v3 v4 v5:Value)(l:Ls):Prop where
 sc:wi5 w v1 l.sc
 ar:wi7 w v2 l.ar
 sy:wd9 w v3 l.sy
 si:wd9 w v4 l.si
 so:wd9 w v5 l.so
theorem wj7.below{l:Ls}(h:wj7 w v1 v2 v3 v4 v5 l)(hb:Below w.heap.size w w1):wj7 w1 v1 v2 v3 v4 v5 l:=⟨h.sc.below hb,h.ar.below hb,h.sy.below hb,h.si.below hb,h.so.below hb⟩
def AY(l m:Ls):Bool:=AL EF l.sc m.sc&&AL EM l.ar m.ar&&AL DB l.sy m.sy&&AL DB l.si m.si&&AL DB l.so m.so
structure PC(w:World)(g:Nat)(v0 v1 v2 v3 v4 v5:Value):Prop where
 lt:g<w.heap.size
 c0:w.cell? (aD g 0)=some v0
 c1:w.cell? (aD g 1)=some v1
 c2:w.cell? (aD g 2)=some v2
 c3:w.cell? (aD g 3)=some v3
 c4:w.cell? (aD g 4)=some v4
 c5:w.cell? (aD g 5)=some v5
theorem PC.below{g:Nat}{v0:Value}(h:PC w g v0 v1 v2 v3 v4 v5)(hb:Below w.heap.size w w1):PC w1 g v0 v1 v2 v3 v4 v5 :=
 have k:∀o,w1.cell? (aD g o)=w.cell? (aD g o):=λo=>hb.cell (p:=⟨g,o,none⟩) h.lt
 ⟨lL_ h.lt hb.size,(k 0).trans h.c0,(k 1).trans h.c1,(k 2).trans h.c2,(k 3).trans h.c3,(k 4).trans h.c4,(k 5).trans h.c5⟩
theorem PC.new(w:World)(v0 v1 v2 v3 v4 v5:Value):PC (w.alloc (.cells #[v0,v1,v2,v3,v4,v5] 33)) w.heap.size v0 v1 v2 v3 v4 v5 :=
 ⟨by simp,by simp[go_sem],by simp[go_sem],by simp[go_sem],by simp[go_sem],by simp[go_sem],by simp[go_sem]⟩
theorem zy5(v0 v1 v2 v3 v4 v5 u0 u1 u2 u3 u4 u5:Value)(l m:Ls)(w:World)(hl:wj7 w v1 v2 v3 v4 v5 l)(hm:wj7 w u1 u2 u3 u4 u5 m) :
  Calls Tryz.prog 88 #[.agg #[v0,v1,v2,v3,v4,v5],.agg #[u0,u1,u2,u3,u4,u5]] w λe w'=>e=.returned (.bool (AY l m))/\Below w.heap.size w w':=by
 have HB0:Hi (Below w.heap.size w ((w.alloc (Obj.cells #[v0,v1,v2,v3,v4,v5] 33)).alloc (Obj.cells #[u0,u1,u2,u3,u4,u5] 33))):=((Below.refl _ _).alloc (nR_ _) _).alloc sI _;have HP0:Hi (PC ((w.alloc (Obj.cells #[v0,v1,v2,v3,v4,v5] 33)).alloc (Obj.cells #[u0,u1,u2,u3,u4,u5] 33)) w.heap.size v0 v1 v2 v3 v4 v5):=(PC.new w v0 v1 v2 v3 v4 v5).below ((Below.refl _ _).alloc (nR_ _) _)
 have HQ0:Hi (PC ((w.alloc (Obj.cells #[v0,v1,v2,v3,v4,v5] 33)).alloc (Obj.cells #[u0,u1,u2,u3,u4,u5] 33)) (w.heap.size+1) u0 u1 u2 u3 u4 u5):=by have:=PC.new (w.alloc (Obj.cells #[v0,v1,v2,v3,v4,v5] 33)) u0 u1 u2 u3 u4 u5;rw[show(w.alloc (Obj.cells #[v0,v1,v2,v3,v4,v5] 33)).heap.size=w.heap.size+1 from by simp]at this;exact this
 have HL0:Hi _:=hl.below HB0.o;have HM0:Hi _:=hm.below HB0.o;clear hl hm;go_enter Tryz.func88,Tryz.ntmps88;go_wp2_with fail;obtain⟨w0,hw0⟩:=qq ((w.alloc (Obj.cells #[v0,v1,v2,v3,v4,v5] 33)).alloc (Obj.cells #[u0,u1,u2,u3,u4,u5] 33));rw[<-hw0]at HB0 HP0 HQ0 HL0 HM0;rw[<-hw0];clear hw0;refine mq (zS7 _ _ _ _ _ HL0.o.sc HM0.o.sc) λw1 hb1=>?_;have HB1:=hid (HB0.o.trans (hb1.mono HB0.o.size));have HP1:Hi _:=HP0.o.below hb1;have HQ1:Hi _:=HQ0.o.below hb1;have HL1:Hi _:=HL0.o.below hb1;have HM1:Hi _:=HM0.o.below hb1;clear hb1 HL0 HM0 HP0 HQ0;have z1:=HP1.o.c2;have y1:=HQ1.o.c2;cases h1:AL EF l.sc m.sc
 ·have HE:Hi (AY l m=false):=by unfold Hi AY;rw[h1];simp
  go_wp2_with fail;go_ret;exact⟨za4 HE.o.symm,HB1.o⟩
 go_wp2_with fail;refine mq (zS8 _ _ _ _ _ HL1.o.ar HM1.o.ar) λw2 hb2=>?_;have HB2:=hid (HB1.o.trans (hb2.mono HB1.o.size));have HP2:Hi _:=HP1.o.below hb2;have HQ2:Hi _:=HQ1.o.below hb2;have HL2:Hi _:=HL1.o.below hb2;have HM2:Hi _:=HM1.o.below hb2;clear hb2 HL1 HM1 HP1 HQ1;have z2:=HP2.o.c3;have y2:=HQ2.o.c3;cases h2:AL EM l.ar m.ar
 ·have HE:Hi (AY l m=false):=by unfold Hi AY;rw[h1,h2];simp
  go_wp2_with fail;go_ret;exact⟨za4 HE.o.symm,HB2.o⟩
 go_wp2_with fail;refine mq (zp4 _ _ _ _ _ HL2.o.sy HM2.o.sy) λw3 hb3=>?_;have HB3:=hid (HB2.o.trans (hb3.mono HB2.o.size));have HP3:Hi _:=HP2.o.below hb3;have HQ3:Hi _:=HQ2.o.below hb3;have HL3:Hi _:=HL2.o.below hb3;have HM3:Hi _:=HM2.o.below hb3;clear hb3 HL2 HM2 HP2 HQ2;have z3:=HP3.o.c4;have y3:=HQ3.o.c4;cases h3:AL DB l.sy m.sy
 ·have HE:Hi (AY l m=false):=by unfold Hi AY;rw[h1,h2,h3];simp
  go_wp2_with fail;go_ret;exact⟨za4 HE.o.symm,HB3.o⟩
 go_wp2_with fail;refine mq (zp4 _ _ _ _ _ HL3.o.si HM3.o.si) λw4 hb4=>?_;have HB4:=hid (HB3.o.trans (hb4.mono HB3.o.size));have HP4:Hi _:=HP3.o.below hb4;have HQ4:Hi _:=HQ3.o.below hb4;have HL4:Hi _:=HL3.o.below hb4;have HM4:Hi _:=HM3.o.below hb4;clear hb4 HL3 HM3 HP3 HQ3;have z4:=HP4.o.c5;have y4:=HQ4.o.c5;cases h4:AL DB l.si m.si
 ·have HE:Hi (AY l m=false):=by unfold Hi AY;rw[h1,h2,h3,h4];simp
  go_wp2_with fail;go_ret;exact⟨za4 HE.o.symm,HB4.o⟩
 go_wp2_with fail;refine mq (zp4 _ _ _ _ _ HL4.o.so HM4.o.so) λw5 hb5=>?_;have HB5:=hid (HB4.o.trans (hb5.mono HB4.o.size));have HP5:Hi _:=HP4.o.below hb5;have HQ5:Hi _:=HQ4.o.below hb5;have HL5:Hi _:=HL4.o.below hb5;have HM5:Hi _:=HM4.o.below hb5;clear hb5 HL4 HM4 HP4 HQ4;have HE:Hi (AY l m=AL DB l.so m.so):=by unfold Hi AY;rw[h1,h2,h3,h4];simp
 go_wp2_with fail;go_ret;exact⟨za4 HE.o.symm,HB5.o⟩
end
section
open Go.RowKit
theorem Tryz.info33:(Tryz.prog.info? 33).map (·.size)=some 6:=by kernel_rfl
theorem zO4(w:World)(o:Obj):(w.alloc o).drew.heap[w.heap.size]?=some o:=by show(w.heap.push o)[w.heap.size]?=some o;simp
theorem zO5(b n cap:Nat)(ao:Option Addr)(r:Rd)(w:World)(h:BV w b r)(hn:n<=300) :
  Calls Tryz.prog 89 #[pA b 0,.slice ao n cap] w λe w'=>e=.returned (.agg #[.slice ao n cap,.slice (sA b 0) r.sc.length 8,.slice (sA b 8) r.ar.length 3,.slice (sA b 16) n 300,.slice (sA b 616) r.si.length 12,.slice (sA b 316) n 300])/\Below w.heap.size w w':=by
 have c1:=h.names.sn;have c2:=h.names.aln;have c3:=h.rest.found;have hlt:=h.names.lt;have l1:=h.names.sl;have l2:=h.names.al;have l3:=h.rest.sites;have l1':(r.sc.length:Int)<=8:=oM;have l2':(r.ar.length:Int)<=3:=oM;have l3':(r.si.length:Int)<=12:=oM;have hn':(n:Int)<=300:=oM;have hne:¬b=w.heap.size:=oM;clear h;go_enter Tryz.func89,Tryz.ntmps89;go_wp2_with fail
 go_region
 go_wp2_with fail
 try simp only[Exit.inBlock,Exit.then]
 refine bodyPost_ret (results_cell_row rfl _ _ w.heap.size 33 _ (0,0) _ rfl (zO4 _ _) Tryz.underlying33 rfl Tryz.info33) rfl ?_;exact⟨rfl,((Below.refl _ _).alloc (nR_ _) _).drew⟩
end
section
open Go.RowKit
theorem zX8:Tryz.zeroCells173.size=654:=by kernel_rfl
theorem yw4:Tryz.zeroCells173.toList.drop 629=List.replicate 25 (.bool false):=by kernel_rfl
theorem yw5:Tryz.zeroCells173[14]?=some (nI 0):=by kernel_rfl
theorem yw6:Tryz.zeroCells173[15]?=some (nI 0):=by kernel_rfl
theorem yl8:Tryz.zeroCells173[628]?=some (nI 0):=by kernel_rfl
theorem zo3(w:World)(cs:Array Value)(t:TypeId)(o:Nat):(w.alloc (.cells cs t (0,0))).cell? (aD w.heap.size o)=cs[o]?:=by simp[go_sem]
theorem zO6(w:World):BV (w.alloc (.cells Tryz.zeroCells173 173 (0,0))) w.heap.size rd0:=by
 have hz:=zX8
 have nu:∀d,d<25->Tryz.zeroCells173[629+d]?=some (.bool false):=λd hd=>by have h:=congrArg (λl=>l[d]?) yw4;simp only[List.getElem?_drop,List.getElem?_replicate]at h;rw[if_pos hd]at h;rw[<-Array.getElem?_toList];exact h
 have room:∀o,o<654->∃v,(w.alloc (.cells Tryz.zeroCells173 173 (0,0))).cell? (aD w.heap.size o)=some v:=λo ho=>by rw[zo3];exact⟨_,Array.getElem?_eq_getElem (by rw[hz];exact ho)⟩
 refine⟨⟨by simp,by simp[rd0],by simp[rd0],λi hi=>absurd hi (by simp[rd0]),λi hi=>absurd hi (by simp[rd0]),λi hi=>absurd hi (by simp[rd0]),?_,?_,λi hi=>room i oM,λi=>by simp[go_sem]⟩,⟨rfl,by simp[rd0],by simp[rd0],λi hi=>absurd hi (by simp[rd0]),λi hi=>absurd hi (by simp[rd0]),λi hi=>absurd hi (by simp[rd0]),?_,λd hd=>?_,λo _ ho=>room o ho⟩⟩
 ·rw[zo3];exact yw5
 ·rw[zo3];exact yw6
 ·rw[zo3];exact yl8
 rw[zo3];exact nu d hd
theorem zX9(ao:Option Addr)(cap:Nat)(w:World)(hR:BF w) :
  Calls Tryz.prog 114 #[.slice ao 0 cap] w λe w'=>e=.returned (.tuple #[nI 0,nI 0])/\Below w.heap.size w w':=by
 have HR:Hi _:=hR;clear hR;go_enter Tryz.func114,Tryz.ntmps114;go_wp2_with fail;go_loopw [12] (λt wr=>t=nI 0/\Hi (Below w.heap.size w wr)/\Hi (CN wr w.heap.size [] false)) (λt _=>0)
 case atStart=>exact⟨rfl,(Below.refl _ _).alloc (nR_ _) _,zP4 w⟩
 obtain⟨rfl,HB,HP⟩:=hrel;have HR2:Hi _:=HR.o.below HB.o;have hz:=HB.o.size;go_wp2_with fail;refine mq (zj3 _ 0 [] false _ sI sI (λh hh=>absurd hh sI) HR2.o HP.o) λw1 hb1=>?_;have HBB:=hid (HB.o.trans (hb1.mono hz));clear hb1;have hwf:CA (List.drop 0 [])=false:=rfl;rw[hwf];go_wp2_with fail
 go_ret2
 exact⟨rfl,HBB.o⟩
theorem zO7(b cap:Nat)(ao:Option Addr)(w:World)(hR:BF w) :
  Calls Tryz.prog 87 #[pA b 0,.slice ao 0 cap] w λe w'=>e=.returned (.tuple #[nI 0,nI 0])/\Below w.heap.size w w':=by
 have HS:Hi (∀_:Unit,Calls Tryz.prog 114 #[.slice ao 0 cap] w λe w'=>e=.returned (.tuple #[nI 0,nI 0])/\Below w.heap.size w w'):=λ_=>zX9 ao cap w hR;clear hR;go_enter Tryz.func87,Tryz.ntmps87;go_wp2_with fail;refine mq (HS.o ()) λw1 hb1=>?_;have HB1:Hi _:=hb1;clear hb1;go_wp2_with fail;go_loopw [22] (λt wr=>t=nI 0/\Hi (Below w.heap.size w wr)) (λt _=>0)
 case atStart=>exact⟨rfl,HB1.o⟩
 obtain⟨rfl,HB⟩:=hrel;go_wp2_with fail
 go_ret2
 exact⟨rfl,HB.o⟩
def DD(w:World)(v:Value)(ns:List Nd):Prop:=(∀n∈ns,n.Ok)/\∃ao cap,v=.slice ao ns.length cap/\ns.length<=cap/\cap<=maxLen/\(ns=[]\/∃b o,ao=some ⟨b,o,none⟩/\AV w b o ns)
theorem DD.below{l:List Nd}(h:DD w v l)(hb:Below w.heap.size w w1):DD w1 v l:=by obtain⟨k0,ao,cap,e,z,z',k⟩:=h;exact⟨k0,ao,cap,e,z,z',k.imp id (λ⟨b,o,e,s⟩=>⟨b,o,e,s.below hb⟩)⟩
def BS(r:Rd):Ls:=⟨r.sc,r.ar.map (λa:ByteArray×Nat=>(a.1,(a.2:Int))),r.sy,r.si.map (λi:Nat=>(i:Int)),r.so⟩
def CY(ns:List Nd)(l:Ls):Bool:=decide ((AR ns rd0).1=0)&&AY l (BS (AR ns rd0).2.2)
theorem zq6:∀(ns:List Nd) (r:Rd),(BL ns r).1=0->(BL ns r).2.2.sy.length=r.sy.length+ns.length
 | [],r,_=>by simp[BL]
 | n::t,r,h=>by
  rw[BL]at h ⊢;by_cases hp:(CO r r.sy.length n).1=0
  ·rw[if_pos hp]at h ⊢
   rw[zq6 t _ h,yv1 r _ n hp];simp;omega
  rw[if_neg hp]at h;exact absurd h hp
theorem zj1(ns:List Nd)(h:(AR ns rd0).1=0):(AR ns rd0).2.2.sy.length=ns.length/\ns.length<=300:=by
 unfold AR at h ⊢;by_cases hs:(BD ns).1=0
 ·rw[if_pos hs]at h ⊢
  refine⟨?_,(zn9 ns hs).1⟩;rw[zq6 ns rd0 h];simp[rd0]
 rw[if_neg hs]at h;exact absurd h hs
theorem zY0{b n:Nat}{r:Rd}(h:BV w b r)(hn:r.sy.length=n) :
  wj7 w (.slice (sA b 0) r.sc.length 8) (.slice (sA b 8) r.ar.length 3) (.slice (sA b 16) n 300) (.slice (sA b 616) r.si.length 12) (.slice (sA b 316) n 300) (BS r):=by
 have h1:=h.names.sl;have h2:=h.names.al;have h3:=h.rest.sites;have h4:=h.rest.most;have h5:=h.rest.len;have hm:1000<=maxLen:=by decide
 subst hn;refine⟨⟨by simp only[BS];omega,_,_,rfl,.inr ⟨b,0,rfl,⟨h.names.lt,λi hi=>by rw[Nat.zero_add];exact h.names.str i hi⟩⟩⟩,⟨by simp only[BS,List.length_map];omega,_,3,by simp only[BS,List.length_map],.inr ⟨b,8,rfl,⟨h.names.lt,λi hi=>?_,λi hi=>?_⟩⟩⟩,⟨by simp only[BS];omega,_,_,rfl,.inr ⟨b,16,rfl,⟨h.names.lt,λi hi=>h.rest.sy i hi⟩⟩⟩,⟨by simp only[BS,List.length_map];omega,_,12,by simp only[BS,List.length_map],.inr ⟨b,616,rfl,⟨h.names.lt,λi hi=>?_⟩⟩⟩,⟨by simp only[BS];omega,_,300,by simp only[BS,h5],.inr ⟨b,316,rfl,⟨h.names.lt,λi hi=>h.rest.so i hi⟩⟩⟩⟩
 ·simp only[BS,List.length_map]at hi
  simp only[BS,List.getElem_map];exact h.names.an i hi
 ·simp only[BS,List.length_map]at hi
  simp only[BS,List.getElem_map];exact h.names.av i hi
 simp only[BS,List.length_map]at hi;simp only[BS,List.getElem_map];exact h.rest.si i hi
theorem zD3:AR [] rd0=(0,0,rd0):=by
 have hs:(BD []).1=0:=by decide +kernel
 unfold AR;rw[if_pos hs];rfl
theorem zO8(b:Nat)(v:Value)(ns:List Nd)(w:World)(hR:BF w)(hN:DD w v ns)(hnb:∀g,g<b->g≠b)(hlo:∀nb o cap,v=.slice (sA nb o) ns.length cap->ns≠[]->nb≠b)(h:BV w b rd0) :
  Calls Tryz.prog 87 #[pA b 0,v] w λe w'=>e=.returned (.tuple #[nI (AR ns rd0).1,nI (AR ns rd0).2.1])/\AD b w w'/\((AR ns rd0).1=0->BV w' b (AR ns rd0).2.2):=by
 obtain⟨hok,ao,cap,rfl,hc1,hc2,k⟩:=hN;rcases k with rfl | ⟨nb,o,rfl,hn⟩
 ·rw[zD3]
  refine mq (zO7 b cap ao w hR) λw' hb=>?_;exact⟨rfl,AD.of hb,λ_=>h.below hb⟩
 by_cases he:ns=[]
 ·subst he
  rw[zD3];refine mq (zO7 b cap _ w hR) λw' hb=>?_;exact⟨rfl,AD.of hb,λ_=>h.below hb⟩
 exact ym1 b nb o cap ns w hok hR hn hc1 hc2 (hlo nb o cap rfl he) h
structure BO(w:World)(v0 v1 v2 v3 v4 v5:Value)(ns:List Nd)(l:Ls):Prop where
 nodes:DD w v0 ns
 lists:wj7 w v1 v2 v3 v4 v5 l
theorem BO.below{v0:Value}{l:Ls}(h:BO w v0 v1 v2 v3 v4 v5 ns l)(hb:Below w.heap.size w w1):BO w1 v0 v1 v2 v3 v4 v5 ns l:=⟨h.nodes.below hb,h.lists.below hb⟩
theorem zO9(v0 v1 v2 v3 v4 v5:Value)(ns:List Nd)(l:Ls)(w:World)(hR:BF w)(h:BO w v0 v1 v2 v3 v4 v5 ns l) :
  Calls Tryz.prog 51 #[.agg #[v0,v1,v2,v3,v4,v5]] w λe w'=>e=.returned (.bool (CY ns l))/\Below w.heap.size w w':=by
 have HB0:Hi (Below w.heap.size w ((w.alloc (.cells #[v0,v1,v2,v3,v4,v5] 33)).alloc (.cells Tryz.zeroCells173 173))):=((Below.refl _ _).alloc (nR_ _) _).alloc sI _;have HP0:Hi (PC ((w.alloc (.cells #[v0,v1,v2,v3,v4,v5] 33)).alloc (.cells Tryz.zeroCells173 173)) w.heap.size v0 v1 v2 v3 v4 v5):=(PC.new w v0 v1 v2 v3 v4 v5).below ((Below.refl _ _).alloc (nR_ _) _)
 have HD0:Hi (BV ((w.alloc (.cells #[v0,v1,v2,v3,v4,v5] 33)).alloc (.cells Tryz.zeroCells173 173)) (w.heap.size+1) rd0):=by have:=zO6 (w.alloc (.cells #[v0,v1,v2,v3,v4,v5] 33));rw[show(w.alloc (.cells #[v0,v1,v2,v3,v4,v5] 33)).heap.size=w.heap.size+1 from by simp]at this;exact this
 have HR0:Hi _:=hR.below HB0.o;have HN0:Hi _:=h.nodes.below HB0.o
 have HLO:Hi (∀nb o cap,v0=.slice (sA nb o) ns.length cap->ns≠[]->nb≠w.heap.size+1):=by
  intro nb o cap e hne;obtain⟨_,ao,cap',e',_,_,k⟩:=h.nodes;obtain⟨b,o',rfl,hn⟩:=k.resolve_left hne;have hlt:=hn.lt;rw[e]at e'
  injection e' with e1 e2 e3
  injection e1 with e4
  injection e4 with e5
  omega
 have HL:Hi _:=h.lists
 have HV:Hi (∃ao cap,v0=.slice ao ns.length cap):=by obtain⟨_,ao,cap,e,_⟩:=h.nodes;exact⟨ao,cap,e⟩
 clear hR h;have HRD:Hi (∃q,q=AR ns rd0):=⟨_,rfl⟩;obtain⟨⟨code,at_,rr⟩,hq⟩:=HRD.o;have HQ:Hi _:=hq.symm;clear hq HRD
 have HRC:Hi (∀w',BF w'->DD w' v0 ns->BV w' (w.heap.size+1) rd0->Calls Tryz.prog 87 #[.pointer (some ⟨w.heap.size+1,0,none⟩),v0] w' λe w''=>e=.returned (.tuple #[nI code,nI at_])/\AD (w.heap.size+1) w' w''/\(code=0->BV w'' (w.heap.size+1) rr)):=λw' h1 h2 h3=>by have:=zO8 (w.heap.size+1) v0 ns w' h1 h2 (λg hg=>by omega) HLO.o h3;rw[HQ.o]at this;exact this
 go_enter Tryz.func51,Tryz.ntmps51;go_wp2_with fail;obtain⟨w0,hw0⟩:=qq ((w.alloc (.cells #[v0,v1,v2,v3,v4,v5] 33)).alloc (.cells Tryz.zeroCells173 173));have HZ0:Hi (w0.heap.size=w.heap.size+2):=by unfold Hi;rw[hw0];simp
 rw[<-hw0]at HB0 HP0 HD0 HR0 HN0;rw[<-hw0];clear hw0;refine mq (HRC.o _ HR0.o HN0.o HD0.o) λw1 ⟨hs1,hr1⟩=>?_;have HB1:Hi (Below w.heap.size w w1):=hs1.below HB0.o oM (by have:=HZ0.o;omega)
 have HP1:Hi (PC w1 w.heap.size v0 v1 v2 v3 v4 v5):=by have k:∀o,w1.cell? (aD w.heap.size o)=w0.cell? (aD w.heap.size o):=λo=>hs1.cell oM HP0.o.lt;exact⟨lL_ HP0.o.lt hs1.low.size,(k 0).trans HP0.o.c0,(k 1).trans HP0.o.c1,(k 2).trans HP0.o.c2,(k 3).trans HP0.o.c3,(k 4).trans HP0.o.c4,(k 5).trans HP0.o.c5⟩
 have HL1:Hi _:=HL.o.below HB1.o;have HR1:Hi _:=hr1;clear hs1 hr1 HRC HL HLO HR0 HN0 HD0 HP0 HB0;obtain⟨z1,c0,c1,c2,c3,c4,c5⟩:=HP1.o;by_cases hc:code=0
 case neg =>
  have hcb:(code==0)=false:=by rw[beq_eq_false_iff_ne];exact hc
  have HE:Hi (CY ns l=false):=by unfold Hi CY;rw[HQ.o];simp[hc]
  go_wp2_with fail
  go_region
  go_wp2_with fail;go_ret;exact⟨za4 HE.o.symm,HB1.o.drew⟩
 subst hc;have HE:Hi (CY ns l=AY l (BS rr)):=by unfold Hi CY;rw[HQ.o];simp
 have HR2:Hi (BV w1 (w.heap.size+1) rr):=HR1.o rfl
 have HLN:Hi (rr.sy.length=ns.length/\ns.length<=300):=by have:=zj1 ns (by rw[HQ.o]);rw[HQ.o]at this;exact this
 obtain⟨ao,cap,rfl⟩:=HV.o;clear HR1 HQ HV;go_wp2_with fail
 go_region_held3 (λw'=>w'.cell? (aD w.heap.size 0)=some (.slice ao ns.length cap)/\w'.cell? (aD w.heap.size 1)=some v1/\w'.cell? (aD w.heap.size 2)=some v2/\w'.cell? (aD w.heap.size 3)=some v3/\w'.cell? (aD w.heap.size 4)=some v4/\w'.cell? (aD w.heap.size 5)=some v5) (go_keep)
  (first
  |(go_at_call 89;refine mq (zO5 (w.heap.size+1) ns.length cap ao rr _ (HR2.o.below (Below.refl _ _).drew) HLN.o.2) λw2 hb2=>?_;have HP2:Hi _:=(HP1.o.below (Below.refl _ _).drew).below hb2;obtain⟨z2,p0,p1,p2,p3,p4,p5⟩:=HP2.o;have HL2:Hi _:=(HL1.o.below (Below.refl _ _).drew).below hb2;have HR3:Hi _:=(HR2.o.below (Below.refl _ _).drew).below hb2;have HB2:=hid (HB1.o.drew.trans (hb2.mono HB1.o.size)))
  |(go_at_call 88;refine mq (zy5 _ _ _ _ _ _ _ _ _ _ _ _ l (BS rr) _ HL2.o (zY0 HR3.o HLN.o.1)) λw3 hb3=>?_;have HP3:Hi _:=HP2.o.below hb3;obtain⟨z3,q0,q1,q2,q3,q4,q5⟩:=HP3.o;have HB3:=hid (HB2.o.trans (hb3.mono HB2.o.size))))
 go_wp2_with fail;go_ret;exact⟨za4 HE.o.symm,HB3.o⟩
end
section
open Go.RowKit
def nd0:Nd:=⟨0,0,⟨#[]⟩,0,0,0⟩
def BU(ns:List Nd)(d:Int):Nat->Int
 | 0 => -1
 | k+1=>if (ns.getD k nd0).depth<d then (k:Int) else BU ns d k
theorem zS4(nb o cap i:Nat)(ns:List Nd)(w:World)(hi:i<ns.length)(hl:ns.length<=300)(h:AV w nb o ns) :
  Calls Tryz.prog 113 #[.slice (sA nb o) ns.length cap,nI i] w λe w'=>e=.returned (nI (BU ns ns[i].depth i))/\∃n,w'=w.drewN n:=by
 have HC:Hi _:=h;have ci:=h.c0 i hi;have hlt:=h.lt;have hi1:(i:Int)<ns.length:=oM;have hl1:(ns.length:Int)<=300:=oM;have hw1:IntKind.i64.wrap ((i:Int)-1)=(i:Int)-1:=Go.IntWalk.i64_in _ oM;clear h;obtain⟨d,hd⟩:=qq (ns[i].depth);have hdd:=hid hd.symm;rw[<-hd]at ci ⊢;clear hd;go_enter Tryz.func113,Tryz.ntmps113;go_wp2_with fail;go_loopw [5] (λt wr=>∃j:Nat,j<=i/\t=nI ((j:Int)-1)/\Hi (BU ns d i=BU ns d j)/\Hi (∃n,wr=w.drewN n)) (λt _=>(intOf t+1).toNat)
 case atStart=>exact⟨i,Nat.le_refl _,by first | rfl | (rw[hw1]),rfl,0,rfl⟩
 obtain⟨j,hj,rfl,hr,hw⟩:=hrel;obtain⟨m,hm⟩:=hw.o;subst hm
 cases j with
 | zero =>
  have HE:=hid hr.o;go_wp2_with fail;go_ret;exact⟨zl6 HE.o.symm,_,rfl⟩
 | succ k =>
  have hk:k<ns.length:=oM;have ck:=HC.o.c0 k hk
  have HST:Hi (BU ns d i=if ns[k].depth<d then (k:Int) else BU ns d k):=by unfold Hi;rw[hr.o,BU];simp[List.getD,hk]
  have e1:(((k+1:Nat)):Int)-1=(k:Int):=oM;have hk1:(k:Int)<ns.length:=oM;have hw2:IntKind.i64.wrap ((k:Int)-1)=(k:Int)-1:=Go.IntWalk.i64_in _ oM;rw[e1];clear hr hw hw1;generalize ns[k].depth=x at *;by_cases hx:x<d
  ·have HE:Hi (BU ns d i=(k:Int)):=by unfold Hi;rw[HST.o,if_pos hx]
   clear HST;go_wp2_with fail;go_quiet (fail);go_wp2_with fail;go_ret;exact⟨zl6 HE.o.symm,_,by first | exact(World.drewN_drewN ..) | rfl⟩
  have HE:Hi (BU ns d i=BU ns d k):=by unfold Hi;rw[HST.o,if_neg hx]
  have hx2:d<=x:=oM;clear HST;go_wp2_with fail;go_quiet (fail);go_wp2_with fail;go_roundw
  case rel=>exact⟨k,by omega,by first | rfl | (rw[hw2]),HE,_,by first | exact(World.drewN_drewN ..) | rfl⟩
  case measure=>simp[intOf]<;>omega
def wb6(n:Nd):Bool:=if n.kind=5\/n.kind=7\/n.kind=8 then false else if n.kind=14 then n.op==1 else if n.kind=15 then (n.op != 14&&n.op != 15) else true
theorem zS5(nb o cap i k:Nat)(ns:List Nd)(w:World)(hi:i<ns.length)(hl:ns.length<=300)(h:AV w nb o ns)(hk:BU ns ns[i].depth i=k)(hkl:k<ns.length) :
  Calls Tryz.prog 82 #[.slice (sA nb o) ns.length cap,nI i] w λe w'=>e=.returned (.bool (wb6 ns[k]))/\Below w.heap.size w w':=by
 have HH:Hi (∀_:Unit,Calls Tryz.prog 113 #[.slice (sA nb o) ns.length cap,nI i] w λe w'=>e=.returned (nI k)/\∃n,w'=w.drewN n):=λ_=>by
  have:=zS4 nb o cap i ns w hi hl h
  rwa [hk]at this
 have HN:Hi _:=h;have hlt:=h.lt;have hk1:(k:Int)<ns.length:=oM;have hl1:(ns.length:Int)<=300:=oM;clear h hk;obtain⟨n,hn⟩:∃n,ns[k]=n:=⟨_,rfl⟩;rw[hn];have HV:Hi _:=hn;clear hn;go_enter Tryz.func82,Tryz.ntmps82;go_wp2_with fail;refine mq (HH.o ()) λw1 ⟨m,hm⟩=>?_;have HB:Hi (Below w.heap.size w w1):=by rw[hm];exact below_drewN (Below.refl _ _) _
 have HN1:Hi _:=HN.o.below HB.o;clear HH hm HN;have c0:=HN1.o.c0 k hkl;have c1:=HN1.o.c1 k hkl;have c2:=HN1.o.c2 k hkl;have c3:=HN1.o.c3 k hkl;have c4:=HN1.o.c4 k hkl;have c5:=HN1.o.c5 k hkl;have hlt1:=HN1.o.lt;have hne:¬nb=w1.heap.size:=oM;rw[HV.o]at c0 c1 c2 c3 c4 c5;go_wp2
 all_goals first
  |(exfalso;simp_all;done)
  |(go_ret;refine⟨za4 ?_,HB.o.alloc HB.o.size _⟩;simp only[beq_iff_eq,beq_eq_false_iff_ne,bne_iff_ne] at *;simp[wb6, *];done)
  |(go_ret;refine⟨za4 ?_,HB.o.alloc HB.o.size _⟩;simp only[beq_iff_eq,beq_eq_false_iff_ne,bne_iff_ne] at *;simp[wb6, *];omega)
  | trace_state
end
section
open Go.RowKit
def AN(kind:Int)(v:List UInt8):List Nd->Int->Nat->Int×Nat
 | [],a,n=>(a,n)
 | m::t,a,n=>if m.kind≠0/\m.kind≠1 then (a,n) else if m.kind≠kind then AN kind v t a n else AN kind v t (if (m.name.toList==v)&&decide (a<0) then n else a) (n+1)
def AQ(ns:List Nd)(kind:Int)(v:List UInt8)(to:Nat):Int×Nat:=AN kind v (ns.take to) (-1) 0
theorem zy6(kind:Int)(v:List UInt8)(ns:List Nd)(to i:Nat)(a:Int)(n:Nat)(h:i<to)(ht:to<=ns.length) :
  AN kind v ((ns.take to).drop i) a n=if ns[i].kind≠0/\ns[i].kind≠1 then (a,n) else if ns[i].kind≠kind then AN kind v ((ns.take to).drop (i+1)) a n else AN kind v ((ns.take to).drop (i+1)) (if (ns[i].name.toList==v)&&decide (a<0) then n else a) (n+1):=by
 rw[List.drop_eq_getElem_cons (show i<(ns.take to).length by simp;omega),AN];simp only[List.getElem_take]
theorem zf8(nb o cap to:Nat)(kind:Int)(v:ByteArray)(ns:List Nd)(w:World)(ht:to<=ns.length)(hl:ns.length<=300)(hkd:kind=0\/kind=1)(h:AV w nb o ns) :
  Calls Tryz.prog 45 #[.slice (sA nb o) ns.length cap,nI kind,.string v,nI to] w λe w'=>e=.returned (.tuple #[nI (AQ ns kind v.toList to).1,nI (AQ ns kind v.toList to).2])/\w'=w:=by
 have HC:Hi _:=h;have HK:Hi _:=hkd;have hlt:=h.lt;have ht1:(to:Int)<=ns.length:=oM;have hl1:(ns.length:Int)<=300:=oM;clear h hkd;go_enter Tryz.func45,Tryz.ntmps45;go_wp2_with fail
 go_loop [10,11,12] (λta tn ti=>∃(i n:Nat) (a:Int),i<=to/\n<=i/\ta=nI a/\tn=nI n/\ti=nI i/\Hi (AQ ns kind v.toList to=AN kind v.toList ((ns.take to).drop i) a n)) (λ_ _ ti=>to-(intOf ti).toNat)
 case atStart=>exact⟨0,0,-1,by omega,by omega,rfl,rfl,rfl,rfl⟩
 obtain⟨i,n,a,hi,hn,rfl,rfl,rfl,hr⟩:=hrel;by_cases hlt2:i<to
 ·have hi2:i<ns.length:=oM
  have c1:=HC.o.c1 i hi2;have c2:=HC.o.c2 i hi2;have hi3:(i:Int)<ns.length:=oM;rw[zy6 kind v.toList ns to i a n hlt2 ht]at hr;generalize ns[i].kind=k at *;generalize ns[i].name=nm at *;by_cases k01:k≠0/\k≠1
  ·have e0:(k==0)=false:=by rw[beq_eq_false_iff_ne];exact k01.1
   have e1:(k==1)=false:=by rw[beq_eq_false_iff_ne];exact k01.2
   have f0:(k != 0)=true:=by simp[k01.1]
   have f1:(k != 1)=true:=by simp[k01.2]
   have g0:¬k=0:=k01.1;have g1:¬k=1:=k01.2;rw[if_pos k01]at hr;clear k01;go_wp2_with fail
   go_ret2
   rw[hr.o];exact⟨rfl,rfl⟩
  rw[if_neg k01]at hr;have k02:k=0\/k=1:=oM;clear k01;by_cases hk:k=kind
  ·rw[if_neg (by simp[hk])]at hr
   subst hk
   cases hq:(nm.toList==v.toList)<;>rw[hq]at hr
   ·rw[if_neg (by simp)]at hr
    rcases k02 with rfl | rfl
    all_goals
     go_wp2_with fail
     go_round
     case rel=>exact⟨i+1,n+1,a,by omega,by omega,rfl,by go_num,by go_num,hr⟩
     case measure=>simp[intOf];omega
   by_cases ha:a<0
   ·rw[if_pos (by simp[ha])]at hr
    have ha2:decide (a<0)=true:=dT_ ha;rcases k02 with rfl | rfl
    all_goals
     go_wp2_with fail
     go_round
     case rel=>exact⟨i+1,n+1,n,by omega,by omega,rfl,by go_num,by go_num,hr⟩
     case measure=>simp[intOf];omega
   rw[if_neg (by simp[ha])]at hr;have ha2:decide (a<0)=false:=dF_ ha;have ha3:0<=a:=oM;rcases k02 with rfl | rfl
   all_goals
    go_wp2_with fail
    go_round
    case rel=>exact⟨i+1,n+1,a,by omega,by omega,rfl,by go_num,by go_num,hr⟩
    case measure=>simp[intOf];omega
  rw[if_pos hk]at hr;have hk1:(k==kind)=false:=by rw[beq_eq_false_iff_ne];exact hk
  have hk2:((0:Int)==1)=false:=rfl;rcases k02 with rfl | rfl
  all_goals
   go_wp2_with fail
   go_round
   case rel=>exact⟨i+1,n,a,by omega,by omega,rfl,rfl,by go_num,hr⟩
   case measure=>simp[intOf];omega
 have HE:Hi (AQ ns kind v.toList to=(a,n)):=by unfold Hi;rw[hr.o,List.drop_of_length_le (by simp;omega)];rfl
 clear hr;go_wp2_with fail
 go_ret2
 rw[HE.o];exact⟨rfl,rfl⟩
end
section
open Go.RowKit
def BM(kind num s a:Int)(ns na:Nat):Int :=
 if 0<=s\/0<=a then 40 else if kind=1/\(num<1\/16<num) then 43 else if kind=0/\8<=ns then 44 else if kind=1/\3<=na then 45 else 0
def ED(ns:List Nd)(n:Nd)(i:Nat):Int:=BM n.kind n.num (AQ ns 0 n.name.toList i).1 (AQ ns 1 n.name.toList i).1 (AQ ns 0 n.name.toList i).2 (AQ ns 1 n.name.toList i).2
theorem zl2{a b:Int}(h:a=b):Ending.returned (nI a)=.returned (nI b):=by rw[h]
theorem zD4(nb o cap i:Nat)(ns:List Nd)(w:World)(hi:i<ns.length)(hl:ns.length<=300)(h:AV w nb o ns) :
  Calls Tryz.prog 80 #[.slice (sA nb o) ns.length cap,nI i] w λe w'=>e=.returned (nI (ED ns ns[i] i))/\Below w.heap.size w w':=by
 have c0:=h.c0 i hi;have c1:=h.c1 i hi;have c2:=h.c2 i hi;have c3:=h.c3 i hi;have c4:=h.c4 i hi;have c5:=h.c5 i hi;have hlt:=h.lt;have hi1:(i:Int)<ns.length:=oM;have hl1:(ns.length:Int)<=300:=oM;have hne:¬nb=w.heap.size:=oM;obtain⟨n,hn⟩:∃n,ns[i]=n:=⟨_,rfl⟩;rw[hn]at c0 c1 c2 c3 c4 c5 ⊢;have HB:Hi (∀ob,Below w.heap.size w (w.alloc ob)):=λob=>(Below.refl _ _).alloc (nR_ _) _;obtain⟨⟨s,sn⟩,hs⟩:∃p,p=AQ ns 0 n.name.toList i:=⟨_,rfl⟩;obtain⟨⟨a,an⟩,ha⟩:∃p,p=AQ ns 1 n.name.toList i:=⟨_,rfl⟩
 have HS:Hi (∀w',Below w.heap.size w w'->Calls Tryz.prog 45 #[.slice (sA nb o) ns.length cap,nI 0,.string n.name,nI i] w' λe w''=>e=.returned (.tuple #[nI s,nI sn])/\w''=w'):=λw' hb=>by
  have:=zf8 nb o cap i 0 n.name ns w' oM hl (.inl rfl) (h.below hb)
  rwa [<-hs]at this
 have HA:Hi (∀w',Below w.heap.size w w'->Calls Tryz.prog 45 #[.slice (sA nb o) ns.length cap,nI 1,.string n.name,nI i] w' λe w''=>e=.returned (.tuple #[nI a,nI an])/\w''=w'):=λw' hb=>by
  have:=zf8 nb o cap i 1 n.name ns w' oM hl (.inr rfl) (h.below hb)
  rwa [<-ha]at this
 have HE:Hi (ED ns n i=BM n.kind n.num s a sn an):=by unfold Hi ED;rw[<-hs,<-ha]
 rw[HE.o];clear h hn hs ha HE;go_enter Tryz.func80,Tryz.ntmps80;go_wp2_with fail;refine mq (HS.o _ (HB.o _)) λw1 rfl=>?_;go_wp2_with fail;refine mq (HA.o _ (HB.o _)) λw1 rfl=>?_;clear HS HA;go_wp2
 all_goals
  go_ret;refine⟨zl2 ?_,HB.o _⟩;clear HB c0 c1 c2 c3 c4 c5;unfold BM
  repeat' split
 all_goals first
  | rfl
  | omega
  |(simp_all;done)
  |(simp_all;omega)
def CD(n:Nd)(dec s a:Int)(want:Bool)(sites:Nat):Int :=
 if n.kind=0\/n.kind=1 then dec
 else if 0<BA n/\s<0/\a<0 then 41
 else if 0<BA n/\((BA n==1) != decide (0<=s))=true then 42
 else if (BP n && !want)||(DG n&&want) then 42 else if BN n&&decide (12<=sites) then 46 else 0
theorem zw5(n:Nd){v:Bool}(h:BP n=v)(w:World):Calls Tryz.prog 81 #[DL n] w λe w'=>e=.returned (.bool v)/\Below w.heap.size w w':=by have:=zJ2 n w;rwa [h]at this
theorem zy7(n:Nd){v:Bool}(h:DG n=v)(w:World):Calls Tryz.prog 83 #[DL n] w λe w'=>e=.returned (.bool v)/\Below w.heap.size w w':=by have:=zZ2 n w;rwa [h]at this
theorem zk1(n:Nd){v:Bool}(h:BN n=v)(w:World):Calls Tryz.prog 46 #[DL n] w λe w'=>e=.returned (.bool v)/\Below w.heap.size w w':=by have:=zZ3 n w;rwa [h]at this
theorem zh1(n:Nd){v:Int}(h:BA n=v)(w:World):Calls Tryz.prog 44 #[DL n] w λe w'=>e=.returned (nI v)/\Below w.heap.size w w':=by have:=zT3 n w;rwa [h]at this
theorem yl9(h:BP n=true):DG n=false:=by
 revert h
 unfold BP DG
 repeat' split
 all_goals simp_all
 all_goals omega
theorem NdC.new(w:World)(n:Nd):NdC (w.alloc (.cells #[nI n.depth,nI n.kind,.string n.name,nI n.num,nI n.op,nI n.pos] 78)) w.heap.size n :=
 ⟨by simp,by simp[go_sem],by simp[go_sem],by simp[go_sem],by simp[go_sem],by simp[go_sem],by simp[go_sem]⟩
theorem zY1(nb o cap i sites:Nat)(ns:List Nd)(dec s a:Int)(want:Bool)(n:Nd)(w:World)(hi:i<ns.length)(hn:ns[i]=n)(hl:ns.length<=300)(hs12:sites<=300)(h:AV w nb o ns)
  (hdec:ED ns n i=dec) (hs:(AQ ns 0 n.name.toList ns.length).1=s) (ha:(AQ ns 1 n.name.toList ns.length).1=a)
  (hwant:(BP n||DG n)=true->∃(k:Nat) (hk:k<ns.length),BU ns n.depth i=k/\wb6 ns[k]=want) :
  Calls Tryz.prog 43 #[.slice (sA nb o) ns.length cap,nI i,nI sites] w λe w'=>e=.returned (nI (CD n dec s a want sites))/\Below w.heap.size w w':=by
 have c0:=h.c0 i hi;have c1:=h.c1 i hi;have c2:=h.c2 i hi;have c3:=h.c3 i hi;have c4:=h.c4 i hi;have c5:=h.c5 i hi;have hlt:=h.lt;have hi1:(i:Int)<ns.length:=oM;have hl1:(ns.length:Int)<=300:=oM;have hne:¬nb=w.heap.size:=oM;rw[hn]at c0 c1 c2 c3 c4 c5;have HNw:=hid h
 have HDEC:Hi (∀w',Below w.heap.size w w'->Calls Tryz.prog 80 #[.slice (sA nb o) ns.length cap,nI i] w' λe w''=>e=.returned (nI dec)/\Below w'.heap.size w' w''):=λw' hb=>by
  have:=zD4 nb o cap i ns w' hi hl (h.below hb)
  rwa [hn,hdec]at this
 have HDS:Hi (∀w',Below w.heap.size w w'->Calls Tryz.prog 45 #[.slice (sA nb o) ns.length cap,nI 0,.string n.name,nI ns.length] w' λe w''=>e=.returned (.tuple #[nI s,nI (AQ ns 0 n.name.toList ns.length).2])/\w''=w'):=λw' hb=>by
  have:=zf8 nb o cap ns.length 0 n.name ns w' (nR_ _) hl (.inl rfl) (h.below hb)
  rwa [hs]at this
 have HDA:Hi (∀w',Below w.heap.size w w'->Calls Tryz.prog 45 #[.slice (sA nb o) ns.length cap,nI 1,.string n.name,nI ns.length] w' λe w''=>e=.returned (.tuple #[nI a,nI (AQ ns 1 n.name.toList ns.length).2])/\w''=w'):=λw' hb=>by
  have:=zf8 nb o cap ns.length 1 n.name ns w' (nR_ _) hl (.inr rfl) (h.below hb)
  rwa [ha]at this
 have HW:Hi (∀w',(BP n||DG n)=true->∀{v:Bool},want=v->Below w.heap.size w w'->Calls Tryz.prog 82 #[.slice (sA nb o) ns.length cap,nI i] w' λe w''=>e=.returned (.bool v)/\Below w'.heap.size w' w''):=λw' hx v hv hb=>by
  obtain⟨k,hk,h1,h2⟩:=hwant hx;have:=zS5 nb o cap i k ns w' hi hl (h.below hb) (by rw[hn];exact h1) hk
  rwa [h2,hv]at this
 obtain⟨sn,hsn⟩:=qq ((AQ ns 0 n.name.toList ns.length).2);obtain⟨an,han⟩:=qq ((AQ ns 1 n.name.toList ns.length).2);rw[<-hsn]at HDS;rw[<-han]at HDA;clear h hn hdec hs ha hwant hsn han;have HB1:Hi (Below w.heap.size w (w.alloc (.cells #[nI n.depth,nI n.kind,.string n.name,nI n.num,nI n.op,nI n.pos] 78))):=(Below.refl _ _).alloc (nR_ _) _;have HC1:Hi _:=NdC.new w n;have HN1:Hi _:=HNw.o.below HB1.o;by_cases k01:n.kind=0\/n.kind=1
 case pos =>
  have HE:Hi (CD n dec s a want sites=dec):=by unfold Hi CD;rw[if_pos k01]
  have key:∀v:Int,n.kind=v->(v=0\/v=1)->True:=λ_ _ _=>trivial;rcases k01 with k0 | k0
  all_goals
   rw[k0]at c1 HB1 HC1 HN1;go_enter Tryz.func43,Tryz.ntmps43;go_wp2_with fail;refine mq (HDEC.o _ HB1.o) λw2 hb=>?_;have HB2:=hid (HB1.o.trans (hb.mono HB1.o.size));clear hb;go_wp2_with fail;go_ret;exact⟨zl2 (by rw[HE.o]),HB2.o⟩
 have b0:(n.kind==0)=false:=by rw[beq_eq_false_iff_ne];exact λe=>k01 (.inl e)
 have b1:(n.kind==1)=false:=by rw[beq_eq_false_iff_ne];exact λe=>k01 (.inr e)
 have d0:¬n.kind=0:=λe=>k01 (.inl e);have d1:¬n.kind=1:=λe=>k01 (.inr e);obtain⟨nm,hnm⟩:∃x,BA n=x:=⟨_,rfl⟩
 have hnm3:nm=0\/nm=1\/nm=2:=by
  rw[<-hnm];unfold BA;repeat' split
  all_goals simp
 go_enter Tryz.func43,Tryz.ntmps43;go_wp2_with fail;obtain⟨w1,hw1⟩:=qq (w.alloc (.cells #[nI n.depth,nI n.kind,.string n.name,nI n.num,nI n.op,nI n.pos] 78));rw[<-hw1]at HB1 HC1 HN1;rw[<-hw1];clear hw1 c0 c1 c2 c3 c4 c5;refine mq (zh1 n hnm _) λw2 hb=>?_;have HC2:Hi _:=HC1.o.below hb;have HN2:Hi _:=HN1.o.below hb;have HB2:=hid (HB1.o.trans (hb.mono HB1.o.size));clear hb;obtain⟨_,c0,c1,c2,c3,c4,c5⟩:=HC2.o;by_cases hz:nm=0
 case' pos =>
  subst hz
  have HF0:Hi (CD n dec s a want sites=if (BP n && !want)||(DG n&&want) then 42 else if BN n&&decide (12<=sites) then 46 else 0):=by unfold Hi CD;rw[if_neg k01,hnm];simp
  clear k01
 case' neg =>
  replace hnm3:=hnm3.resolve_left hz;clear hz;have hpos:0<nm:=oM;go_wp2_with fail;refine mq (HDS.o _ HB2.o) λw9 hw=>?_;subst hw;go_wp2_with fail;refine mq (HDA.o _ HB2.o) λw9 hw=>?_;subst hw;by_cases h41:s<0/\a<0
  ·have HE:Hi (CD n dec s a want sites=41):=by unfold Hi CD;rw[if_neg k01,hnm,if_pos ⟨hpos,h41⟩]
   have e1:decide (s<0)=true:=dT_ h41.1;have e2:decide (a<0)=true:=dT_ h41.2;obtain⟨e3,e4⟩:=h41;go_wp2_with fail;go_ret;exact⟨zl2 (by rw[HE.o]),HB2.o⟩
  cases h42:((nm==1) != decide (0<=s))
  case true =>
   have HE:Hi (CD n dec s a want sites=42):=by unfold Hi CD;rw[if_neg k01,hnm,if_neg (λe=>h41 e.2),if_pos ⟨hpos,h42⟩]
   by_cases e1:s<0
   ·have e2:0<=a:=oM
    have e3:decide (0<=s)=false:=dF_ oM;rw[e3]at h42;have e4:(nm==1)=true:=by simpa using h42
    have e5:nm=1:=by simpa using e4
    subst e5;go_wp2_with fail;go_ret;exact⟨zl2 (by rw[HE.o]),HB2.o⟩
   have e2:0<=s:=oM;have e3:decide (0<=s)=true:=dT_ oM;rw[e3]at h42;have e4:(nm==1)=false:=by simpa using h42
   have e5:nm=2:=by rcases hnm3 with e | e;(rw[e]at e4;simp at e4);exact e
   subst e5;go_wp2_with fail;go_ret;exact⟨zl2 (by rw[HE.o]),HB2.o⟩
  have HF0:Hi (CD n dec s a want sites=if (BP n && !want)||(DG n&&want) then 42 else if BN n&&decide (12<=sites) then 46 else 0):=by unfold Hi CD;rw[if_neg k01,hnm,if_neg (λe=>h41 e.2),if_neg (by simp[h42])]
  clear k01;by_cases e1:s<0
  case' pos =>
   have e2:0<=a:=oM;have e3:decide (0<=s)=false:=dF_ oM;rw[e3]at h42;have e4:(nm==1)=false:=by simpa using h42
   have e5:nm=2:=by rcases hnm3 with e | e;(rw[e]at e4;simp at e4);exact e
   subst e5;clear h41 h42 hnm3
  case' neg =>
   have e2:0<=s:=oM;have e3:decide (0<=s)=true:=dT_ oM;rw[e3]at h42;have e4:(nm==1)=true:=by simpa using h42
   have e5:nm=1:=by simpa using e4
   subst e5;clear h41 h42 hnm3
 all_goals
  cases hM:BP n
  case' true =>
   have hD:DG n=false:=yl9 hM;go_wp2_with fail;clear c0 c1 c2 c3 c4 c5;refine mq (zw5 n hM _) λw2n hb=>?_;have HC2n:Hi _:=HC2.o.below hb;have HN2n:Hi _:=HN2.o.below hb;have HB2n:=hid (HB2.o.trans (hb.mono HB2.o.size));clear hb;obtain⟨_,c0,c1,c2,c3,c4,c5⟩:=HC2n.o;cases hW:want
   case false =>
    have HE:Hi (CD n dec s a want sites=42):=by unfold Hi;rw[HF0.o,hM,hW];rfl
    go_wp2_with fail;clear c0 c1 c2 c3 c4 c5;refine mq (HW.o _ (by simp[hM]) hW HB2n.o) λw2w hb=>?_;have HC2w:Hi _:=HC2n.o.below hb;have HN2w:Hi _:=HN2n.o.below hb;have HB2w:=hid (HB2n.o.trans (hb.mono HB2n.o.size));clear hb;obtain⟨_,c0,c1,c2,c3,c4,c5⟩:=HC2w.o;go_wp2_with fail;go_ret;exact⟨zl2 (by rw[HE.o]),HB2w.o⟩
   case' true =>
    have HF:Hi (CD n dec s a want sites=if BN n&&decide (12<=sites) then 46 else 0):=by unfold Hi;rw[HF0.o,hM,hD,hW];rfl
    go_wp2_with fail;clear c0 c1 c2 c3 c4 c5;refine mq (HW.o _ (by simp[hM]) hW HB2n.o) λw2w hb=>?_;have HC2w:Hi _:=HC2n.o.below hb;have HN2w:Hi _:=HN2n.o.below hb;have HB2w:=hid (HB2n.o.trans (hb.mono HB2n.o.size));clear hb;obtain⟨_,c0,c1,c2,c3,c4,c5⟩:=HC2w.o;go_wp2_with fail;clear c0 c1 c2 c3 c4 c5;refine mq (zy7 n hD _) λw2c hb=>?_;have HC2c:Hi _:=HC2w.o.below hb;have HN2c:Hi _:=HN2w.o.below hb;have HB2c:=hid (HB2w.o.trans (hb.mono HB2w.o.size));clear hb;obtain⟨_,c0,c1,c2,c3,c4,c5⟩:=HC2c.o
  case' false =>
   go_wp2_with fail;clear c0 c1 c2 c3 c4 c5;refine mq (zw5 n hM _) λw2n hb=>?_;have HC2n:Hi _:=HC2.o.below hb;have HN2n:Hi _:=HN2.o.below hb;have HB2n:=hid (HB2.o.trans (hb.mono HB2.o.size));clear hb;obtain⟨_,c0,c1,c2,c3,c4,c5⟩:=HC2n.o;cases hD:DG n
   case' true =>
    go_wp2_with fail;clear c0 c1 c2 c3 c4 c5;refine mq (zy7 n hD _) λw2m hb=>?_;have HC2m:Hi _:=HC2n.o.below hb;have HN2m:Hi _:=HN2n.o.below hb;have HB2m:=hid (HB2n.o.trans (hb.mono HB2n.o.size));clear hb;obtain⟨_,c0,c1,c2,c3,c4,c5⟩:=HC2m.o;cases hW:want
    case true =>
     have HE:Hi (CD n dec s a want sites=42):=by unfold Hi;rw[HF0.o,hM,hD,hW];rfl
     go_wp2_with fail;clear c0 c1 c2 c3 c4 c5;refine mq (HW.o _ (by simp[hD]) hW HB2m.o) λw2v hb=>?_;have HC2v:Hi _:=HC2m.o.below hb;have HN2v:Hi _:=HN2m.o.below hb;have HB2v:=hid (HB2m.o.trans (hb.mono HB2m.o.size));clear hb;obtain⟨_,c0,c1,c2,c3,c4,c5⟩:=HC2v.o;go_wp2_with fail;go_ret;exact⟨zl2 (by rw[HE.o]),HB2v.o⟩
    case' false =>
     have HF:Hi (CD n dec s a want sites=if BN n&&decide (12<=sites) then 46 else 0):=by unfold Hi;rw[HF0.o,hM,hD,hW];rfl
     go_wp2_with fail;clear c0 c1 c2 c3 c4 c5;refine mq (HW.o _ (by simp[hD]) hW HB2m.o) λw2c hb=>?_;have HC2c:Hi _:=HC2m.o.below hb;have HN2c:Hi _:=HN2m.o.below hb;have HB2c:=hid (HB2m.o.trans (hb.mono HB2m.o.size));clear hb;obtain⟨_,c0,c1,c2,c3,c4,c5⟩:=HC2c.o
   rotate_left;have HF:Hi (CD n dec s a want sites=if BN n&&decide (12<=sites) then 46 else 0):=by unfold Hi;rw[HF0.o,hM,hD];rfl
   go_wp2_with fail;clear c0 c1 c2 c3 c4 c5;refine mq (zy7 n hD _) λw2c hb=>?_;have HC2c:Hi _:=HC2n.o.below hb;have HN2c:Hi _:=HN2n.o.below hb;have HB2c:=hid (HB2n.o.trans (hb.mono HB2n.o.size));clear hb;obtain⟨_,c0,c1,c2,c3,c4,c5⟩:=HC2c.o
  all_goals
   cases hS:BN n
   case' false =>
     have HE:Hi (CD n dec s a want sites=0):=by unfold Hi;rw[HF.o,hS];rfl
   case' true =>
    by_cases h12:12<=sites
    case' pos =>
     have h12i:12<=(sites:Int):=oM;have HE:Hi (CD n dec s a want sites=46):=by unfold Hi;rw[HF.o,hS];simp[h12]
    case' neg =>
     have h12i:(sites:Int)<12:=oM;have h12d:decide (12<=(sites:Int))=false:=dF_ oM;have HE:Hi (CD n dec s a want sites=0):=by unfold Hi;rw[HF.o,hS];simp[h12]
   all_goals
    go_wp2_with fail;clear c0 c1 c2 c3 c4 c5;refine mq (zk1 n hS _) λw2cs hb=>?_;have HC2cs:Hi _:=HC2c.o.below hb;have HN2cs:Hi _:=HN2c.o.below hb;have HB2cs:=hid (HB2c.o.trans (hb.mono HB2c.o.size));clear hb;obtain⟨_,c0,c1,c2,c3,c4,c5⟩:=HC2cs.o;go_wp2_with fail;go_ret;exact⟨zl2 (by rw[HE.o]),HB2cs.o⟩
end
section
open Go.RowKit
structure Shp(ns:List Nd):Prop where
 fit:∀(i:Nat) (h:i<ns.length),EG ns[i]=true
 dep:∀(i:Nat) (h:i<ns.length),1<=ns[i].depth/\ns[i].depth<=24
 first:∀(h:0<ns.length),ns[0].depth=1
 step:∀(i:Nat) (h:i+1<ns.length),ns[i+1].depth<=ns[i].depth+1
 expr:∀(i:Nat) (h:i<ns.length),10<=ns[i].kind->2<=ns[i].depth
 decl:∀(i j:Nat) (h:j<ns.length) (hij:i<j),ns[j].kind<=1->ns[i].kind<=1
def wg1(ns:List Nd):Int:=match ns.getLast? with | some n=>n.depth | none=>0
theorem zS6(ns:List Nd)(n:Nd):wg1 (ns++[n])=n.depth:=by unfold wg1;simp
theorem zY2(ns:List Nd)(h:0<ns.length):wg1 ns=ns[ns.length-1].depth:=by unfold wg1;rw[List.getLast?_eq_getElem?,List.getElem?_eq_getElem (by omega)]
theorem Shp.snoc(h:Shp ns)(hf:EG n=true)(hd:1<=n.depth/\n.depth<=24)(hs:n.depth<=wg1 ns+1)(he:10<=n.kind->2<=n.depth)(hk:n.kind<=1->∀x∈ns,x.kind<=1):Shp (ns++[n]):=by
 have get:∀(i:Nat) (hi:i<(ns++[n]).length),(∃h':i<ns.length,(ns++[n])[i]=ns[i])\/(i=ns.length/\(ns++[n])[i]=n):=λi hi=>by
  by_cases e:i<ns.length
  ·exact .inl ⟨e,List.getElem_append_left e⟩
  simp at hi;have e2:i=ns.length:=oM;subst e2;exact .inr ⟨rfl,by simp⟩
 refine⟨λi hi=>?_,λi hi=>?_,λh0=>?_,λi hi=>?_,λi hi=>?_,λi j hj hij=>?_⟩
 ·rcases get i hi with ⟨h',e⟩ | ⟨_,e⟩<;>rw[e]
  ·exact h.fit i h'
  exact hf
 ·rcases get i hi with ⟨h',e⟩ | ⟨_,e⟩<;>rw[e]
  ·exact h.dep i h'
  exact hd
 ·rcases get 0 h0 with ⟨h',e⟩ | ⟨e0,e⟩<;>rw[e]
  ·exact h.first h'
  have:ns=[]:=List.eq_nil_of_length_eq_zero e0.symm;subst this;have:wg1 []=0:=rfl;omega
 ·rcases get (i+1) hi with ⟨h',e⟩ | ⟨e0,e⟩<;>rw[e]
  ·rw[List.getElem_append_left (show i<ns.length by omega)]
   exact h.step i h'
  rw[List.getElem_append_left (show i<ns.length by omega)];have:=zY2 ns oM;rw[this]at hs;simpa[show ns.length-1=i by omega] using hs
 ·rcases get i hi with ⟨h',e⟩ | ⟨_,e⟩<;>rw[e]
  ·exact h.expr i h'
  exact he
 have hi:i<(ns++[n]).length:=oM
 rcases get j hj with ⟨h',e⟩ | ⟨e0,e⟩<;>rw[e]
 ·rw[List.getElem_append_left (show i<ns.length by omega)]
  exact h.decl i j h' hij
 rw[List.getElem_append_left (show i<ns.length by omega)];exact λhh=>hk hh _ (List.getElem_mem _)
theorem Shp.nil:Shp []:=⟨λi h=>absurd h sI,λi h=>absurd h sI,λh=>absurd h sI,λi h=>absurd h sI,λi h=>absurd h sI,λi j h=>absurd h sI⟩
theorem yw7{k:Nat}(h:k<16):(AO k=1↔k<=1)/\(AO k=4↔10<=k)/\1<=AO k/\AO k<=4:=by
 have:∀j:Fin 16,(AO j=1↔(j:Nat)<=1)/\(AO j=4↔10<=(j:Nat))/\1<=AO j/\AO j<=4:=by decide
 exact this ⟨k,h⟩
theorem yw8(k h:Nat):BQ k h≠1:=by
 unfold BQ;by_cases hk:k<16
 ·have:∀j:Fin 16,rH0 j≠1/\rH1 j≠1/\rH2 j≠1:=by decide
  have:=this ⟨k,hk⟩
  repeat' split
  all_goals first | decide | exact this.1 | exact this.2.1 | exact this.2.2
 have z:∀l:List Int,l.length<=16->l.getD k 0=0:=λl hl=>by rw[List.getD_eq_getElem?_getD,List.getElem?_eq_none (by omega)];rfl
 have z0:rH0 k=0:=z _ dC;have z1:rH1 k=0:=z _ dC;have z2:rH2 k=0:=z _ dC;rw[z0,z1,z2]
 repeat' split
 all_goals decide
theorem zY3{k:Nat}(h:k<=1)(c:Nat):BQ k c=0:=by
 have:∀j:Fin 2,rH0 j=0/\rH1 j=0/\rH2 j=0:=by decide
 have:=this ⟨k,by omega⟩;unfold BQ;rw[if_neg (by omega)]
 repeat' split
 all_goals first | exact this.1 | exact this.2.1 | exact this.2.2 | rfl
structure wi4(pre:List Nd)(st:List AW)(g:Bool):Prop where
 shp:Shp pre
 len:(st.length:Int)=wg1 pre
 off:g=false->(∀x∈pre,x.kind<=1)/\(st=[]\/∃k c,k<=1/\st=[(k,c)])
theorem wi4.put{pre:List Nd}{st:List AW}{g:Bool}(h:wi4 pre st g)(hf:EG n=true)(hp:DN st g n.depth n.kind.toNat=true)(hd:n.depth<=24) :
  wi4 (pre++[n]) (AP st (n.depth-1).toNat n.kind.toNat) (DQ g n):=by
 have hk:=zi0 hf;obtain⟨k,hkk⟩:∃k:Nat,n.kind=k:=⟨n.kind.toNat,by omega⟩;have hk16:k<16:=oM;have hs:=yw7 hk16;rw[hkk,Int.toNat_natCast]at hp ⊢;obtain⟨⟨a1,a2⟩,a3,a4⟩:=zj2.1 hp;obtain⟨m,hm⟩:∃m:Nat,n.depth=(m:Int)+1:=⟨(n.depth-1).toNat,by omega⟩;have e1:(n.depth-1).toNat=m:=oM;rw[e1]at a3 a4 ⊢;have hml:m<=st.length:=oM
 have hlen:((AP st m k).length:Int)=n.depth:=by
  unfold AP
  split
  ·simp;omega
  simp;omega
 have hexpr:10<=n.kind->2<=n.depth:=λhx=>by
  by_cases hm0:m=0
  ·exfalso
   rw[hm0]at a4;unfold CR at a4;rw[if_pos rfl,(hs.2.1.2 (by omega):AO k=4)]at a4;simp at a4
  omega
 have hdecl:n.kind<=1->m=0/\g=false:=λhx=>by
  have h1:AO k=1:=hs.1.2 oM;unfold CR at a4;rw[h1]at a4;by_cases hm0:m=0
  ·rw[if_pos hm0]at a4
   exact⟨hm0,by simpa using a4⟩
  rw[if_neg hm0]at a4;exact absurd (by simpa using a4) (yw8 _ _)
 refine⟨h.shp.snoc hf (by omega) (by have:=h.len;omega) hexpr (λhx=>(h.off (hdecl hx).2).1),by rw[hlen,zS6],λhg=>?_⟩
 have hgf:g=false:=by
  unfold DQ at hg
  split at hg
  ·simp at hg;exact hg.1
  exact hg
 obtain⟨o1,o2⟩:=h.off hgf
 have hm0:m=0:=by
  by_cases hm0:m=0
  ·exact hm0
  exfalso;rcases o2 with o2 | ⟨k',c,hk',o2⟩
  ·rw[o2]at hml;simp at hml;omega
  rw[o2]at hml a4;simp at hml;have em:m=1:=oM;subst em;unfold CR at a4;simp[zY3 hk']at a4;omega
 have hk1:n.kind<=1:=by
  unfold DQ at hg;rw[if_pos (by omega),hkk,Int.toNat_natCast,hgf]at hg;unfold CR at a4;rw[if_pos hm0]at a4;have h2:AO k≠2:=by simpa using hg
  have h1:AO k=1:=by
   rcases Bool.or_eq_true _ _ ▸ a4 with h | h
   ·exact absurd (by simpa using h) h2
   simp at h;exact h.1
  have:=hs.1.1 h1;omega
 refine⟨λx hx=>?_,.inr ⟨k,0,by omega,?_⟩⟩
 ·rcases List.mem_append.1 hx with hx | hx
  ·exact o1 x hx
  simp at hx;rw[hx];exact hk1
 unfold AP;rw[if_pos hm0]
theorem zY4:∀(ns:List Nd) (i:Nat) (st:List AW) (g:Bool) (pre:List Nd),wi4 pre st g->(EH ns i st g).1=0->Shp (pre++ns)
 | [],_,_,_,pre,h,_=>by rw[List.append_nil];exact h.shp
 | n::ns,i,st,g,pre,h,hr=>by
  rw[EH]at hr;by_cases h1:EG n=false
  ·rw[if_pos h1]at hr;simp at hr
  rw[if_neg h1]at hr;by_cases h2:DN st g n.depth n.kind.toNat=false
  ·rw[if_pos h2]at hr;simp at hr
  rw[if_neg h2]at hr;by_cases h3:24<n.depth
  ·rw[if_pos h3]at hr;simp at hr
  rw[if_neg h3]at hr;have:=zY4 ns (i+1) _ _ (pre++[n]) (h.put (by simpa using h1) (by simpa using h2) oM) hr
  rwa [List.append_assoc]at this
theorem zP0(h:(BD ns).1=0):Shp ns:=by
 unfold BD at h
 split at h
 ·simp at h
 exact zY4 ns 0 [] false [] ⟨Shp.nil,rfl,λ_=>⟨λx hx=>absurd hx sI,.inl rfl⟩⟩ h
end
end Go.Proofs.YtpongdpnbclchaaGreatDoor
