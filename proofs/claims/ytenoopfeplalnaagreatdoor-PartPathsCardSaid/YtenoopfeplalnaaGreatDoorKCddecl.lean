import Derived.Test.YtenoopfeplalnaaGreatDoorKCreq
set_option maxHeartbeats 8000000
set_option linter.all false
namespace Go.Proofs.YtenoopfeplalnaaGreatDoor
section
open Go.RowKit
theorem SStr.below {w w1:World} {v:Value} {l:List ByteArray} (h:SStr w v l) (hb:Below w.heap.size w w1):SStr w1 v l:=by
 obtain ⟨z,ao,cap,e,k⟩:=h
 exact ⟨z,ao,cap,e,k.imp id (fun ⟨b,o,e,s⟩=>⟨b,o,e,s.below hb⟩)⟩
theorem SInt.below {w w1:World} {v:Value} {l:List Int} (h:SInt w v l) (hb:Below w.heap.size w w1):SInt w1 v l:=by
 obtain ⟨z,ao,cap,e,k⟩:=h
 exact ⟨z,ao,cap,e,k.imp id (fun ⟨b,o,e,s⟩=>⟨b,o,e,s.below hb⟩)⟩
theorem SArr.below {w w1:World} {v:Value} {l:List (ByteArray×Int)} (h:SArr w v l) (hb:Below w.heap.size w w1):SArr w1 v l:=by
 obtain ⟨z,ao,cap,e,k⟩:=h
 exact ⟨z,ao,cap,e,k.imp id (fun ⟨b,o,e,s⟩=>⟨b,o,e,s.below hb⟩)⟩
structure Ls where
 sc:List ByteArray
 ar:List (ByteArray×Int)
 sy:List Int
 si:List Int
 so:List Int
structure LsIs (w:World) (v1 v2 v3 v4 v5:Value) (l:Ls):Prop where
 sc:SStr w v1 l.sc
 ar:SArr w v2 l.ar
 sy:SInt w v3 l.sy
 si:SInt w v4 l.si
 so:SInt w v5 l.so
theorem LsIs.below {w w1:World} {v1 v2 v3 v4 v5:Value} {l:Ls} (h:LsIs w v1 v2 v3 v4 v5 l) (hb:Below w.heap.size w w1):LsIs w1 v1 v2 v3 v4 v5 l:=⟨h.sc.below hb,h.ar.below hb,h.sy.below hb,h.si.below hb,h.so.below hb⟩
def sameLs (l m:Ls):Bool:=likeB eqSt l.sc m.sc&&likeB eqAr l.ar m.ar&&likeB eqIn l.sy m.sy&&likeB eqIn l.si m.si&&likeB eqIn l.so m.so
structure PC (w:World) (g:Nat) (v0 v1 v2 v3 v4 v5:Value):Prop where
 lt:g<w.heap.size
 c0:w.cell? ⟨g,0,none⟩=some v0
 c1:w.cell? ⟨g,1,none⟩=some v1
 c2:w.cell? ⟨g,2,none⟩=some v2
 c3:w.cell? ⟨g,3,none⟩=some v3
 c4:w.cell? ⟨g,4,none⟩=some v4
 c5:w.cell? ⟨g,5,none⟩=some v5
theorem PC.below {w w1:World} {g:Nat} {v0 v1 v2 v3 v4 v5:Value} (h:PC w g v0 v1 v2 v3 v4 v5) (hb:Below w.heap.size w w1):PC w1 g v0 v1 v2 v3 v4 v5 :=
 have k:∀ o,w1.cell? ⟨g,o,none⟩=w.cell? ⟨g,o,none⟩:=fun o=>hb.cell (p:=⟨g,o,none⟩) h.lt
 ⟨Nat.lt_of_lt_of_le h.lt hb.size,(k 0).trans h.c0,(k 1).trans h.c1,(k 2).trans h.c2,(k 3).trans h.c3,(k 4).trans h.c4,(k 5).trans h.c5⟩
theorem PC.new (w:World) (v0 v1 v2 v3 v4 v5:Value):PC (w.alloc (.cells #[v0,v1,v2,v3,v4,v5] 30)) w.heap.size v0 v1 v2 v3 v4 v5 :=
 ⟨by simp,by simp [go_sem],by simp [go_sem],by simp [go_sem],by simp [go_sem],by simp [go_sem],by simp [go_sem]⟩
theorem zx9 (v0 v1 v2 v3 v4 v5 u0 u1 u2 u3 u4 u5:Value) (l m:Ls) (w:World) (hl:LsIs w v1 v2 v3 v4 v5 l) (hm:LsIs w u1 u2 u3 u4 u5 m) :
  Calls Tryz.prog 71 #[.agg #[v0,v1,v2,v3,v4,v5],.agg #[u0,u1,u2,u3,u4,u5]] w fun e w'=>e=.returned (.bool (sameLs l m))/\Below w.heap.size w w':=by
 have HB0:Hid (Below w.heap.size w ((w.alloc (Obj.cells #[v0,v1,v2,v3,v4,v5] 30)).alloc (Obj.cells #[u0,u1,u2,u3,u4,u5] 30))):=((Below.refl _ _).alloc (Nat.le_refl _) _).alloc (by simp) _
 have HP0:Hid (PC ((w.alloc (Obj.cells #[v0,v1,v2,v3,v4,v5] 30)).alloc (Obj.cells #[u0,u1,u2,u3,u4,u5] 30)) w.heap.size v0 v1 v2 v3 v4 v5):=(PC.new w v0 v1 v2 v3 v4 v5).below ((Below.refl _ _).alloc (Nat.le_refl _) _)
 have HQ0:Hid (PC ((w.alloc (Obj.cells #[v0,v1,v2,v3,v4,v5] 30)).alloc (Obj.cells #[u0,u1,u2,u3,u4,u5] 30)) (w.heap.size+1) u0 u1 u2 u3 u4 u5):=by
  have:=PC.new (w.alloc (Obj.cells #[v0,v1,v2,v3,v4,v5] 30)) u0 u1 u2 u3 u4 u5
  rw [show (w.alloc (Obj.cells #[v0,v1,v2,v3,v4,v5] 30)).heap.size=w.heap.size+1 from by simp] at this
  exact this
 have HL0:Hid _:=hl.below HB0.out
 have HM0:Hid _:=hm.below HB0.out
 clear hl hm
 go_enter Tryz.func71,Tryz.ntmps71
 go_wp2_with fail
 obtain ⟨w0,hw0⟩:∃ w0,w0=(w.alloc (Obj.cells #[v0,v1,v2,v3,v4,v5] 30)).alloc (Obj.cells #[u0,u1,u2,u3,u4,u5] 30):=⟨_,rfl⟩
 rw [<-hw0] at HB0 HP0 HQ0 HL0 HM0
 rw [<-hw0]
 clear hw0
 refine (zR2 _ _ _ _ _ HL0.out.sc HM0.out.sc).mono ?_
 rintro e w1 ⟨rfl,hb1⟩
 have HB1:Hid (Below w.heap.size w w1):=HB0.out.trans (hb1.mono HB0.out.size)
 have HP1:Hid _:=HP0.out.below hb1
 have HQ1:Hid _:=HQ0.out.below hb1
 have HL1:Hid _:=HL0.out.below hb1
 have HM1:Hid _:=HM0.out.below hb1
 clear hb1 HL0 HM0 HP0 HQ0
 have z1:=HP1.out.c2
 have y1:=HQ1.out.c2
 cases h1:likeB eqSt l.sc m.sc
 ·have HE:Hid (sameLs l m=false):=by unfold Hid sameLs;rw [h1];simp
  go_wp2_with fail
  go_ret
  exact ⟨za5 HE.out.symm,HB1.out⟩
 go_wp2_with fail
 refine (zR3 _ _ _ _ _ HL1.out.ar HM1.out.ar).mono ?_
 rintro e w2 ⟨rfl,hb2⟩
 have HB2:Hid (Below w.heap.size w w2):=HB1.out.trans (hb2.mono HB1.out.size)
 have HP2:Hid _:=HP1.out.below hb2
 have HQ2:Hid _:=HQ1.out.below hb2
 have HL2:Hid _:=HL1.out.below hb2
 have HM2:Hid _:=HM1.out.below hb2
 clear hb2 HL1 HM1 HP1 HQ1
 have z2:=HP2.out.c3
 have y2:=HQ2.out.c3
 cases h2:likeB eqAr l.ar m.ar
 ·have HE:Hid (sameLs l m=false):=by unfold Hid sameLs;rw [h1,h2];simp
  go_wp2_with fail
  go_ret
  exact ⟨za5 HE.out.symm,HB2.out⟩
 go_wp2_with fail
 refine (zp1 _ _ _ _ _ HL2.out.sy HM2.out.sy).mono ?_
 rintro e w3 ⟨rfl,hb3⟩
 have HB3:Hid (Below w.heap.size w w3):=HB2.out.trans (hb3.mono HB2.out.size)
 have HP3:Hid _:=HP2.out.below hb3
 have HQ3:Hid _:=HQ2.out.below hb3
 have HL3:Hid _:=HL2.out.below hb3
 have HM3:Hid _:=HM2.out.below hb3
 clear hb3 HL2 HM2 HP2 HQ2
 have z3:=HP3.out.c4
 have y3:=HQ3.out.c4
 cases h3:likeB eqIn l.sy m.sy
 ·have HE:Hid (sameLs l m=false):=by unfold Hid sameLs;rw [h1,h2,h3];simp
  go_wp2_with fail
  go_ret
  exact ⟨za5 HE.out.symm,HB3.out⟩
 go_wp2_with fail
 refine (zp1 _ _ _ _ _ HL3.out.si HM3.out.si).mono ?_
 rintro e w4 ⟨rfl,hb4⟩
 have HB4:Hid (Below w.heap.size w w4):=HB3.out.trans (hb4.mono HB3.out.size)
 have HP4:Hid _:=HP3.out.below hb4
 have HQ4:Hid _:=HQ3.out.below hb4
 have HL4:Hid _:=HL3.out.below hb4
 have HM4:Hid _:=HM3.out.below hb4
 clear hb4 HL3 HM3 HP3 HQ3
 have z4:=HP4.out.c5
 have y4:=HQ4.out.c5
 cases h4:likeB eqIn l.si m.si
 ·have HE:Hid (sameLs l m=false):=by unfold Hid sameLs;rw [h1,h2,h3,h4];simp
  go_wp2_with fail
  go_ret
  exact ⟨za5 HE.out.symm,HB4.out⟩
 go_wp2_with fail
 refine (zp1 _ _ _ _ _ HL4.out.so HM4.out.so).mono ?_
 rintro e w5 ⟨rfl,hb5⟩
 have HB5:Hid (Below w.heap.size w w5):=HB4.out.trans (hb5.mono HB4.out.size)
 have HP5:Hid _:=HP4.out.below hb5
 have HQ5:Hid _:=HQ4.out.below hb5
 have HL5:Hid _:=HL4.out.below hb5
 have HM5:Hid _:=HM4.out.below hb5
 clear hb5 HL4 HM4 HP4 HQ4
 have HE:Hid (sameLs l m=likeB eqIn l.so m.so):=by unfold Hid sameLs;rw [h1,h2,h3,h4];simp
 go_wp2_with fail
 go_ret
 exact ⟨za5 HE.out.symm,HB5.out⟩
end
section
open Go.RowKit
theorem Tryz.info30:(Tryz.prog.info? 30).map (·.size)=some 6:=by kernel_rfl
theorem zM8 (w:World) (o:Obj):(w.alloc o).drew.heap[w.heap.size]?=some o:=by
 show (w.heap.push o)[w.heap.size]?=some o
 simp
theorem zM9 (b n cap:Nat) (ao:Option Addr) (r:Rd) (w:World) (h:ReadIs w b r) (hn:n<=300) :
  Calls Tryz.prog 72 #[.pointer (some ⟨b,0,none⟩),.slice ao n cap] w fun e w'=>e=.returned (.agg #[.slice ao n cap,.slice (some ⟨b,0,none⟩) r.sc.length 8,.slice (some ⟨b,8,none⟩) r.ar.length 3,.slice (some ⟨b,16,none⟩) n 300,.slice (some ⟨b,616,none⟩) r.si.length 12,.slice (some ⟨b,316,none⟩) n 300])/\Below w.heap.size w w':=by
 have c1:=h.names.sn
 have c2:=h.names.aln
 have c3:=h.rest.found
 have hlt:=h.names.lt
 have l1:=h.names.sl
 have l2:=h.names.al
 have l3:=h.rest.sites
 have l1':(r.sc.length:Int)<=8:=by omega
 have l2':(r.ar.length:Int)<=3:=by omega
 have l3':(r.si.length:Int)<=12:=by omega
 have hn':(n:Int)<=300:=by omega
 have hne:¬b=w.heap.size:=by omega
 clear h
 go_enter Tryz.func72,Tryz.ntmps72
 go_wp2_with fail
 go_region
 go_wp2_with fail
 try simp only [Exit.inBlock,Exit.then]
 refine bodyPost_ret (results_cell_row rfl _ _ w.heap.size 30 _ (0,0) _ rfl (zM8 _ _) Tryz.underlying30 rfl Tryz.info30) rfl ?_
 exact ⟨rfl,((Below.refl _ _).alloc (Nat.le_refl _) _).drew⟩
end
section
open Go.RowKit
theorem zV3:Tryz.zeroCells165.size=654:=by kernel_rfl
theorem yu9:Tryz.zeroCells165.toList.drop 629=List.replicate 25 (.bool false):=by kernel_rfl
theorem yv0:Tryz.zeroCells165[14]?=some (.int .i64 0):=by kernel_rfl
theorem yv1:Tryz.zeroCells165[15]?=some (.int .i64 0):=by kernel_rfl
theorem yj9:Tryz.zeroCells165[628]?=some (.int .i64 0):=by kernel_rfl
theorem zn8 (w:World) (cs:Array Value) (t:TypeId) (o:Nat):(w.alloc (.cells cs t (0,0))).cell? ⟨w.heap.size,o,none⟩=cs[o]?:=by
 simp [go_sem]
theorem zN0 (w:World):ReadIs (w.alloc (.cells Tryz.zeroCells165 165 (0,0))) w.heap.size rd0:=by
 have hz:=zV3
 have nu:∀ d,d<25->Tryz.zeroCells165[629+d]?=some (.bool false):=fun d hd=>by
  have h:=congrArg (fun l=>l[d]?) yu9
  simp only [List.getElem?_drop,List.getElem?_replicate] at h
  rw [if_pos hd] at h
  rw [<-Array.getElem?_toList]
  exact h
 have room:∀ o,o<654->∃ v,(w.alloc (.cells Tryz.zeroCells165 165 (0,0))).cell? ⟨w.heap.size,o,none⟩=some v:=fun o ho=>by
  rw [zn8]
  exact ⟨_,Array.getElem?_eq_getElem (by rw [hz];exact ho)⟩
 refine ⟨⟨by simp,by simp [rd0],by simp [rd0],fun i hi=>absurd hi (by simp [rd0]),fun i hi=>absurd hi (by simp [rd0]),fun i hi=>absurd hi (by simp [rd0]),?_,?_,fun i hi=>room i (by omega),fun i=>by simp [go_sem]⟩,⟨rfl,by simp [rd0],by simp [rd0],fun i hi=>absurd hi (by simp [rd0]),fun i hi=>absurd hi (by simp [rd0]),fun i hi=>absurd hi (by simp [rd0]),?_,fun d hd=>?_,fun o _ ho=>room o ho⟩⟩
 ·rw [zn8];exact yv0
 ·rw [zn8];exact yv1
 ·rw [zn8];exact yj9
 ·rw [zn8];exact nu d hd
theorem zV4 (ao:Option Addr) (cap:Nat) (w:World) (hR:RulesIs w) :
  Calls Tryz.prog 100 #[.slice ao 0 cap] w fun e w'=>e=.returned (.tuple #[.int .i64 0,.int .i64 0])/\Below w.heap.size w w':=by
 have HR:Hid _:=hR
 clear hR
 go_enter Tryz.func100,Tryz.ntmps100
 go_wp2_with fail
 go_loopw [12] (fun t wr=>t=.int .i64 0/\Hid (Below w.heap.size w wr)/\Hid (PathIs wr w.heap.size [] false)) (fun t _=>0)
 case atStart=>exact ⟨rfl,(Below.refl _ _).alloc (Nat.le_refl _) _,zN9 w⟩
 case round =>
  obtain ⟨rfl,HB,HP⟩:=hrel
  have HR2:Hid _:=HR.out.below HB.out
  have hz:=HB.out.size
  go_wp2_with fail
  refine (zj2 _ 0 [] false _ (by simp) (by simp) (fun h hh=>absurd hh (by simp)) HR2.out HP.out).mono ?_
  rintro e w1 ⟨rfl,hb1⟩
  have HBB:Hid (Below w.heap.size w w1):=HB.out.trans (hb1.mono hz)
  clear hb1
  have hwf:wantsB (List.drop 0 [])=false:=rfl
  rw [hwf]
  go_wp2_with fail
  go_ret2
  exact ⟨rfl,HBB.out⟩
theorem zN1 (b cap:Nat) (ao:Option Addr) (w:World) (hR:RulesIs w) :
  Calls Tryz.prog 70 #[.pointer (some ⟨b,0,none⟩),.slice ao 0 cap] w fun e w'=>e=.returned (.tuple #[.int .i64 0,.int .i64 0])/\Below w.heap.size w w':=by
 have HS:Hid (∀ _:Unit,Calls Tryz.prog 100 #[.slice ao 0 cap] w fun e w'=>e=.returned (.tuple #[.int .i64 0,.int .i64 0])/\Below w.heap.size w w'):=fun _=>zV4 ao cap w hR
 clear hR
 go_enter Tryz.func70,Tryz.ntmps70
 go_wp2_with fail
 refine (HS.out ()).mono ?_
 rintro e w1 ⟨rfl,hb1⟩
 have HB1:Hid _:=hb1
 clear hb1
 go_wp2_with fail
 go_loopw [22] (fun t wr=>t=.int .i64 0/\Hid (Below w.heap.size w wr)) (fun t _=>0)
 case atStart=>exact ⟨rfl,HB1.out⟩
 case round =>
  obtain ⟨rfl,HB⟩:=hrel
  go_wp2_with fail
  go_ret2
  exact ⟨rfl,HB.out⟩
def SNds (w:World) (v:Value) (ns:List Nd):Prop:=(∀ n∈ns,n.Ok)/\∃ ao cap,v=.slice ao ns.length cap/\ns.length<=cap/\cap<=maxLen/\(ns=[]\/∃ b o,ao=some ⟨b,o,none⟩/\NodesAt w b o ns)
theorem SNds.below {w w1:World} {v:Value} {l:List Nd} (h:SNds w v l) (hb:Below w.heap.size w w1):SNds w1 v l:=by
 obtain ⟨k0,ao,cap,e,z,z',k⟩:=h
 exact ⟨k0,ao,cap,e,z,z',k.imp id (fun ⟨b,o,e,s⟩=>⟨b,o,e,s.below hb⟩)⟩
def lsOf (r:Rd):Ls:=⟨r.sc,r.ar.map (fun a:ByteArray×Nat=>(a.1,(a.2:Int))),r.sy,r.si.map (fun i:Nat=>(i:Int)),r.so⟩
def goodD (ns:List Nd) (l:Ls):Bool:=decide ((readD ns rd0).1=0)&&sameLs l (lsOf (readD ns rd0).2.2)
theorem zq2:∀ (ns:List Nd) (r:Rd),(readFrom ns r).1=0->(readFrom ns r).2.2.sy.length=r.sy.length+ns.length
 | [],r,_=>by simp [readFrom]
 | n::t,r,h=>by
  rw [readFrom] at h ⊢
  by_cases hp:(putD r r.sy.length n).1=0
  ·rw [if_pos hp] at h ⊢
   rw [zq2 t _ h,yt7 r _ n hp]
   simp;omega
  ·rw [if_neg hp] at h
   exact absurd h hp
theorem zj0 (ns:List Nd) (h:(readD ns rd0).1=0):(readD ns rd0).2.2.sy.length=ns.length/\ns.length<=300:=by
 unfold readD at h ⊢
 by_cases hs:(shapeD ns).1=0
 ·rw [if_pos hs] at h ⊢
  refine ⟨?_,(zn5 ns hs).1⟩
  rw [zq2 ns rd0 h]
  simp [rd0]
 ·rw [if_neg hs] at h
  exact absurd h hs
theorem zV5 {w:World} {b n:Nat} {r:Rd} (h:ReadIs w b r) (hn:r.sy.length=n) :
  LsIs w (.slice (some ⟨b,0,none⟩) r.sc.length 8) (.slice (some ⟨b,8,none⟩) r.ar.length 3) (.slice (some ⟨b,16,none⟩) n 300) (.slice (some ⟨b,616,none⟩) r.si.length 12) (.slice (some ⟨b,316,none⟩) n 300) (lsOf r):=by
 have h1:=h.names.sl
 have h2:=h.names.al
 have h3:=h.rest.sites
 have h4:=h.rest.most
 have h5:=h.rest.len
 have hm:1000<=maxLen:=by decide
 subst hn
 refine ⟨⟨by simp only [lsOf];omega,_,_,rfl,.inr ⟨b,0,rfl,⟨h.names.lt,fun i hi=>by rw [Nat.zero_add];exact h.names.str i hi⟩⟩⟩,⟨by simp only [lsOf,List.length_map];omega,_,3,by simp only [lsOf,List.length_map],.inr ⟨b,8,rfl,⟨h.names.lt,fun i hi=>?_,fun i hi=>?_⟩⟩⟩,⟨by simp only [lsOf];omega,_,_,rfl,.inr ⟨b,16,rfl,⟨h.names.lt,fun i hi=>h.rest.sy i hi⟩⟩⟩,⟨by simp only [lsOf,List.length_map];omega,_,12,by simp only [lsOf,List.length_map],.inr ⟨b,616,rfl,⟨h.names.lt,fun i hi=>?_⟩⟩⟩,⟨by simp only [lsOf];omega,_,300,by simp only [lsOf,h5],.inr ⟨b,316,rfl,⟨h.names.lt,fun i hi=>h.rest.so i hi⟩⟩⟩⟩
 ·simp only [lsOf,List.length_map] at hi
  simp only [lsOf,List.getElem_map]
  exact h.names.an i hi
 ·simp only [lsOf,List.length_map] at hi
  simp only [lsOf,List.getElem_map]
  exact h.names.av i hi
 ·simp only [lsOf,List.length_map] at hi
  simp only [lsOf,List.getElem_map]
  exact h.rest.si i hi
theorem zC6:readD [] rd0=(0,0,rd0):=by
 have hs:(shapeD []).1=0:=by decide +kernel
 unfold readD
 rw [if_pos hs]
 rfl
theorem zN2 (b:Nat) (v:Value) (ns:List Nd) (w:World) (hR:RulesIs w) (hN:SNds w v ns) (hnb:∀ g,g<b->g≠b) (hlo:∀ nb o cap,v=.slice (some ⟨nb,o,none⟩) ns.length cap->ns≠[]->nb≠b) (h:ReadIs w b rd0) :
  Calls Tryz.prog 70 #[.pointer (some ⟨b,0,none⟩),v] w fun e w'=>e=.returned (.tuple #[.int .i64 (readD ns rd0).1,.int .i64 (readD ns rd0).2.1])/\Beside b w w'/\((readD ns rd0).1=0->ReadIs w' b (readD ns rd0).2.2):=by
 obtain ⟨hok,ao,cap,rfl,hc1,hc2,k⟩:=hN
 rcases k with rfl | ⟨nb,o,rfl,hn⟩
 ·rw [zC6]
  refine (zN1 b cap ao w hR).mono ?_
  rintro e w' ⟨rfl,hb⟩
  exact ⟨rfl,Beside.of hb,fun _=>h.below hb⟩
 ·by_cases he:ns=[]
  ·subst he
   rw [zC6]
   refine (zN1 b cap _ w hR).mono ?_
   rintro e w' ⟨rfl,hb⟩
   exact ⟨rfl,Beside.of hb,fun _=>h.below hb⟩
  ·exact yk5 b nb o cap ns w hok hR hn hc1 hc2 (hlo nb o cap rfl he) h
structure ProgIs (w:World) (v0 v1 v2 v3 v4 v5:Value) (ns:List Nd) (l:Ls):Prop where
 nodes:SNds w v0 ns
 lists:LsIs w v1 v2 v3 v4 v5 l
theorem ProgIs.below {w w1:World} {v0 v1 v2 v3 v4 v5:Value} {ns:List Nd} {l:Ls} (h:ProgIs w v0 v1 v2 v3 v4 v5 ns l) (hb:Below w.heap.size w w1):ProgIs w1 v0 v1 v2 v3 v4 v5 ns l:=⟨h.nodes.below hb,h.lists.below hb⟩
theorem zN3 (v0 v1 v2 v3 v4 v5:Value) (ns:List Nd) (l:Ls) (w:World) (hR:RulesIs w) (h:ProgIs w v0 v1 v2 v3 v4 v5 ns l) :
  Calls Tryz.prog 38 #[.agg #[v0,v1,v2,v3,v4,v5]] w fun e w'=>e=.returned (.bool (goodD ns l))/\Below w.heap.size w w':=by
 have HB0:Hid (Below w.heap.size w ((w.alloc (.cells #[v0,v1,v2,v3,v4,v5] 30)).alloc (.cells Tryz.zeroCells165 165))):=((Below.refl _ _).alloc (Nat.le_refl _) _).alloc (by simp) _
 have HP0:Hid (PC ((w.alloc (.cells #[v0,v1,v2,v3,v4,v5] 30)).alloc (.cells Tryz.zeroCells165 165)) w.heap.size v0 v1 v2 v3 v4 v5):=(PC.new w v0 v1 v2 v3 v4 v5).below ((Below.refl _ _).alloc (Nat.le_refl _) _)
 have HD0:Hid (ReadIs ((w.alloc (.cells #[v0,v1,v2,v3,v4,v5] 30)).alloc (.cells Tryz.zeroCells165 165)) (w.heap.size+1) rd0):=by
  have:=zN0 (w.alloc (.cells #[v0,v1,v2,v3,v4,v5] 30))
  rw [show (w.alloc (.cells #[v0,v1,v2,v3,v4,v5] 30)).heap.size=w.heap.size+1 from by simp] at this
  exact this
 have HR0:Hid _:=hR.below HB0.out
 have HN0:Hid _:=h.nodes.below HB0.out
 have HLO:Hid (∀ nb o cap,v0=.slice (some ⟨nb,o,none⟩) ns.length cap->ns≠[]->nb≠w.heap.size+1):=by
  intro nb o cap e hne
  obtain ⟨_,ao,cap',e',_,_,k⟩:=h.nodes
  obtain ⟨b,o',rfl,hn⟩:=k.resolve_left hne
  have hlt:=hn.lt
  rw [e] at e'
  injection e' with e1 e2 e3
  injection e1 with e4
  injection e4 with e5
  omega
 have HL:Hid _:=h.lists
 have HV:Hid (∃ ao cap,v0=.slice ao ns.length cap):=by
  obtain ⟨_,ao,cap,e,_⟩:=h.nodes
  exact ⟨ao,cap,e⟩
 clear hR h
 have HRD:Hid (∃ q,q=readD ns rd0):=⟨_,rfl⟩
 obtain ⟨⟨code,at_,rr⟩,hq⟩:=HRD.out
 have HQ:Hid _:=hq.symm
 clear hq HRD
 have HRC:Hid (∀ w',RulesIs w'->SNds w' v0 ns->ReadIs w' (w.heap.size+1) rd0->Calls Tryz.prog 70 #[.pointer (some ⟨w.heap.size+1,0,none⟩),v0] w' fun e w''=>e=.returned (.tuple #[.int .i64 code,.int .i64 at_])/\Beside (w.heap.size+1) w' w''/\(code=0->ReadIs w'' (w.heap.size+1) rr)):=fun w' h1 h2 h3=>by
  have:=zN2 (w.heap.size+1) v0 ns w' h1 h2 (fun g hg=>by omega) HLO.out h3
  rw [HQ.out] at this
  exact this
 go_enter Tryz.func38,Tryz.ntmps38
 go_wp2_with fail
 obtain ⟨w0,hw0⟩:∃ w0,w0=(w.alloc (.cells #[v0,v1,v2,v3,v4,v5] 30)).alloc (.cells Tryz.zeroCells165 165):=⟨_,rfl⟩
 have HZ0:Hid (w0.heap.size=w.heap.size+2):=by unfold Hid;rw [hw0];simp
 rw [<-hw0] at HB0 HP0 HD0 HR0 HN0
 rw [<-hw0]
 clear hw0
 refine (HRC.out _ HR0.out HN0.out HD0.out).mono ?_
 rintro e w1 ⟨rfl,hs1,hr1⟩
 have HB1:Hid (Below w.heap.size w w1):=hs1.below HB0.out (by omega) (by have:=HZ0.out;omega)
 have HP1:Hid (PC w1 w.heap.size v0 v1 v2 v3 v4 v5):=by
  have k:∀ o,w1.cell? ⟨w.heap.size,o,none⟩=w0.cell? ⟨w.heap.size,o,none⟩:=fun o=>hs1.cell (by omega) HP0.out.lt
  exact ⟨Nat.lt_of_lt_of_le HP0.out.lt hs1.low.size,(k 0).trans HP0.out.c0,(k 1).trans HP0.out.c1,(k 2).trans HP0.out.c2,(k 3).trans HP0.out.c3,(k 4).trans HP0.out.c4,(k 5).trans HP0.out.c5⟩
 have HL1:Hid _:=HL.out.below HB1.out
 have HR1:Hid _:=hr1
 clear hs1 hr1 HRC HL HLO HR0 HN0 HD0 HP0 HB0
 obtain ⟨z1,c0,c1,c2,c3,c4,c5⟩:=HP1.out
 by_cases hc:code=0
 case neg =>
  have hcb:(code==0)=false:=by rw [beq_eq_false_iff_ne];exact hc
  have HE:Hid (goodD ns l=false):=by unfold Hid goodD;rw [HQ.out];simp [hc]
  go_wp2_with fail
  go_region
  go_wp2_with fail
  go_ret
  exact ⟨za5 HE.out.symm,HB1.out.drew⟩
 subst hc
 have HE:Hid (goodD ns l=sameLs l (lsOf rr)):=by unfold Hid goodD;rw [HQ.out];simp
 have HR2:Hid (ReadIs w1 (w.heap.size+1) rr):=HR1.out rfl
 have HLN:Hid (rr.sy.length=ns.length/\ns.length<=300):=by
  have:=zj0 ns (by rw [HQ.out])
  rw [HQ.out] at this
  exact this
 obtain ⟨ao,cap,rfl⟩:=HV.out
 clear HR1 HQ HV
 go_wp2_with fail
 go_region_held3 (fun w'=>w'.cell? ⟨w.heap.size,0,none⟩=some (.slice ao ns.length cap)/\w'.cell? ⟨w.heap.size,1,none⟩=some v1/\w'.cell? ⟨w.heap.size,2,none⟩=some v2/\w'.cell? ⟨w.heap.size,3,none⟩=some v3/\w'.cell? ⟨w.heap.size,4,none⟩=some v4/\w'.cell? ⟨w.heap.size,5,none⟩=some v5) (go_keep)
  (first
  | (go_at_call 72;refine (zM9 (w.heap.size+1) ns.length cap ao rr _ (HR2.out.below (Below.refl _ _).drew) HLN.out.2).mono ?_;rintro e w2 ⟨rfl,hb2⟩;have HP2:Hid _:=(HP1.out.below (Below.refl _ _).drew).below hb2;obtain ⟨z2,p0,p1,p2,p3,p4,p5⟩:=HP2.out;have HL2:Hid _:=(HL1.out.below (Below.refl _ _).drew).below hb2;have HR3:Hid _:=(HR2.out.below (Below.refl _ _).drew).below hb2;have HB2:Hid (Below w.heap.size w w2):=HB1.out.drew.trans (hb2.mono HB1.out.size))
  | (go_at_call 71;refine (zx9 _ _ _ _ _ _ _ _ _ _ _ _ l (lsOf rr) _ HL2.out (zV5 HR3.out HLN.out.1)).mono ?_;rintro e w3 ⟨rfl,hb3⟩;have HP3:Hid _:=HP2.out.below hb3;obtain ⟨z3,q0,q1,q2,q3,q4,q5⟩:=HP3.out;have HB3:Hid (Below w.heap.size w w3):=HB2.out.trans (hb3.mono HB2.out.size)))
 go_wp2_with fail
 go_ret
 exact ⟨za5 HE.out.symm,HB3.out⟩
end
section
open Go.RowKit
def nd0:Nd:=⟨0,0,⟨#[]⟩,0,0,0⟩
def holdFrom (ns:List Nd) (d:Int):Nat->Int
 | 0 => -1
 | k+1=>if (ns.getD k nd0).depth<d then (k:Int) else holdFrom ns d k
theorem zQ3 (nb o cap i:Nat) (ns:List Nd) (w:World) (hi:i<ns.length) (hl:ns.length<=300) (h:NodesAt w nb o ns) :
  Calls Tryz.prog 99 #[.slice (some ⟨nb,o,none⟩) ns.length cap,.int .i64 i] w fun e w'=>e=.returned (.int .i64 (holdFrom ns ns[i].depth i))/\∃ n,w'=w.drewN n:=by
 have HC:Hid _:=h
 have ci:=h.c0 i hi
 have hlt:=h.lt
 have hi1:(i:Int)<ns.length:=by omega
 have hl1:(ns.length:Int)<=300:=by omega
 have hw1:IntKind.i64.wrap ((i:Int)-1)=(i:Int)-1:=Go.IntWalk.i64_in _ (by omega)
 clear h
 obtain ⟨d,hd⟩:∃ d,d=ns[i].depth:=⟨_,rfl⟩
 have hdd:Hid (ns[i].depth=d):=hd.symm
 rw [<-hd] at ci ⊢
 clear hd
 go_enter Tryz.func99,Tryz.ntmps99
 go_wp2_with fail
 go_loopw [5] (fun t wr=>∃ j:Nat,j<=i/\t=.int .i64 ((j:Int)-1)/\Hid (holdFrom ns d i=holdFrom ns d j)/\Hid (∃ n,wr=w.drewN n)) (fun t _=>(intOf t+1).toNat)
 case atStart=>exact ⟨i,Nat.le_refl _,by first | rfl | (rw [hw1]),rfl,0,rfl⟩
 case round =>
  obtain ⟨j,hj,rfl,hr,hw⟩:=hrel
  obtain ⟨m,hm⟩:=hw.out
  subst hm
  cases j with
  | zero =>
   have HE:Hid (holdFrom ns d i = -1):=hr.out
   go_wp2_with fail
   go_ret
   exact ⟨zl2 HE.out.symm,_,rfl⟩
  | succ k =>
   have hk:k<ns.length:=by omega
   have ck:=HC.out.c0 k hk
   have HST:Hid (holdFrom ns d i=if ns[k].depth<d then (k:Int) else holdFrom ns d k):=by
    unfold Hid;rw [hr.out,holdFrom];simp [List.getD,hk]
   have e1:(((k+1:Nat)):Int)-1=(k:Int):=by omega
   have hk1:(k:Int)<ns.length:=by omega
   have hw2:IntKind.i64.wrap ((k:Int)-1)=(k:Int)-1:=Go.IntWalk.i64_in _ (by omega)
   rw [e1]
   clear hr hw hw1
   generalize ns[k].depth=x at *
   by_cases hx:x<d
   ·have HE:Hid (holdFrom ns d i=(k:Int)):=by unfold Hid;rw [HST.out,if_pos hx]
    clear HST
    go_wp2_with fail
    go_quiet (fail)
    go_wp2_with fail
    go_ret
    exact ⟨zl2 HE.out.symm,_,by first | exact (World.drewN_drewN ..) | rfl⟩
   ·have HE:Hid (holdFrom ns d i=holdFrom ns d k):=by unfold Hid;rw [HST.out,if_neg hx]
    have hx2:d<=x:=by omega
    clear HST
    go_wp2_with fail
    go_quiet (fail)
    go_wp2_with fail
    go_roundw
    case rel=>exact ⟨k,by omega,by first | rfl | (rw [hw2]),HE,_,by first | exact (World.drewN_drewN ..) | rfl⟩
    case measure=>simp [intOf]<;>omega
def wantN (n:Nd):Bool:=if n.kind=5\/n.kind=7\/n.kind=8 then false else if n.kind=14 then n.op==1 else if n.kind=15 then (n.op != 14&&n.op != 15) else true
theorem zQ4 (nb o cap i k:Nat) (ns:List Nd) (w:World) (hi:i<ns.length) (hl:ns.length<=300) (h:NodesAt w nb o ns) (hk:holdFrom ns ns[i].depth i=k) (hkl:k<ns.length) :
  Calls Tryz.prog 68 #[.slice (some ⟨nb,o,none⟩) ns.length cap,.int .i64 i] w fun e w'=>e=.returned (.bool (wantN ns[k]))/\Below w.heap.size w w':=by
 have HH:Hid (∀ _:Unit,Calls Tryz.prog 99 #[.slice (some ⟨nb,o,none⟩) ns.length cap,.int .i64 i] w fun e w'=>e=.returned (.int .i64 k)/\∃ n,w'=w.drewN n):=fun _=>by
  have:=zQ3 nb o cap i ns w hi hl h
  rwa [hk] at this
 have HN:Hid _:=h
 have hlt:=h.lt
 have hk1:(k:Int)<ns.length:=by omega
 have hl1:(ns.length:Int)<=300:=by omega
 clear h hk
 obtain ⟨n,hn⟩:∃ n,ns[k]=n:=⟨_,rfl⟩
 rw [hn]
 have HV:Hid _:=hn
 clear hn
 go_enter Tryz.func68,Tryz.ntmps68
 go_wp2_with fail
 refine (HH.out ()).mono ?_
 rintro e w1 ⟨rfl,m,hm⟩
 have HB:Hid (Below w.heap.size w w1):=by unfold Hid;rw [hm];exact below_drewN (Below.refl _ _) _
 have HN1:Hid _:=HN.out.below HB.out
 clear HH hm HN
 have c0:=HN1.out.c0 k hkl
 have c1:=HN1.out.c1 k hkl
 have c2:=HN1.out.c2 k hkl
 have c3:=HN1.out.c3 k hkl
 have c4:=HN1.out.c4 k hkl
 have c5:=HN1.out.c5 k hkl
 have hlt1:=HN1.out.lt
 have hne:¬nb=w1.heap.size:=by omega
 rw [HV.out] at c0 c1 c2 c3 c4 c5
 go_wp2
 all_goals first
  | (exfalso;simp_all;done)
  | (go_ret;refine ⟨za5 ?_,HB.out.alloc HB.out.size _⟩;simp only [beq_iff_eq,beq_eq_false_iff_ne,bne_iff_ne] at *;simp [wantN, *];done)
  | (go_ret;refine ⟨za5 ?_,HB.out.alloc HB.out.size _⟩;simp only [beq_iff_eq,beq_eq_false_iff_ne,bne_iff_ne] at *;simp [wantN, *];omega)
  | trace_state
end
section
open Go.RowKit
def declFrom (kind:Int) (v:List UInt8):List Nd->Int->Nat->Int×Nat
 | [],a,n=>(a,n)
 | m::t,a,n=>if m.kind≠0/\m.kind≠1 then (a,n) else if m.kind≠kind then declFrom kind v t a n else declFrom kind v t (if (m.name.toList==v)&&decide (a<0) then n else a) (n+1)
def declOf (ns:List Nd) (kind:Int) (v:List UInt8) (to:Nat):Int×Nat:=declFrom kind v (ns.take to) (-1) 0
theorem zy0 (kind:Int) (v:List UInt8) (ns:List Nd) (to i:Nat) (a:Int) (n:Nat) (h:i<to) (ht:to<=ns.length) :
  declFrom kind v ((ns.take to).drop i) a n=if ns[i].kind≠0/\ns[i].kind≠1 then (a,n) else if ns[i].kind≠kind then declFrom kind v ((ns.take to).drop (i+1)) a n else declFrom kind v ((ns.take to).drop (i+1)) (if (ns[i].name.toList==v)&&decide (a<0) then n else a) (n+1):=by
 rw [List.drop_eq_getElem_cons (show i<(ns.take to).length by simp;omega),declFrom]
 simp only [List.getElem_take]
theorem zg0 (nb o cap to:Nat) (kind:Int) (v:ByteArray) (ns:List Nd) (w:World) (ht:to<=ns.length) (hl:ns.length<=300) (hkd:kind=0\/kind=1) (h:NodesAt w nb o ns) :
  Calls Tryz.prog 36 #[.slice (some ⟨nb,o,none⟩) ns.length cap,.int .i64 kind,.string v,.int .i64 to] w fun e w'=>e=.returned (.tuple #[.int .i64 (declOf ns kind v.toList to).1,.int .i64 (declOf ns kind v.toList to).2])/\w'=w:=by
 have HC:Hid _:=h
 have HK:Hid _:=hkd
 have hlt:=h.lt
 have ht1:(to:Int)<=ns.length:=by omega
 have hl1:(ns.length:Int)<=300:=by omega
 clear h hkd
 go_enter Tryz.func36,Tryz.ntmps36
 go_wp2_with fail
 go_loop [10,11,12] (fun ta tn ti=>∃ (i n:Nat) (a:Int),i<=to/\n<=i/\ta=.int .i64 a/\tn=.int .i64 n/\ti=.int .i64 i/\Hid (declOf ns kind v.toList to=declFrom kind v.toList ((ns.take to).drop i) a n)) (fun _ _ ti=>to-(intOf ti).toNat)
 case atStart=>exact ⟨0,0,-1,by omega,by omega,rfl,rfl,rfl,rfl⟩
 case round =>
  obtain ⟨i,n,a,hi,hn,rfl,rfl,rfl,hr⟩:=hrel
  by_cases hlt2:i<to
  ·have hi2:i<ns.length:=by omega
   have c1:=HC.out.c1 i hi2
   have c2:=HC.out.c2 i hi2
   have hi3:(i:Int)<ns.length:=by omega
   rw [zy0 kind v.toList ns to i a n hlt2 ht] at hr
   generalize ns[i].kind=k at *
   generalize ns[i].name=nm at *
   by_cases k01:k≠0/\k≠1
   ·have e0:(k==0)=false:=by rw [beq_eq_false_iff_ne];exact k01.1
    have e1:(k==1)=false:=by rw [beq_eq_false_iff_ne];exact k01.2
    have f0:(k != 0)=true:=by simp [k01.1]
    have f1:(k != 1)=true:=by simp [k01.2]
    have g0:¬k=0:=k01.1
    have g1:¬k=1:=k01.2
    rw [if_pos k01] at hr
    clear k01
    go_wp2_with fail
    go_ret2
    rw [hr.out]
    exact ⟨rfl,rfl⟩
   ·rw [if_neg k01] at hr
    have k02:k=0\/k=1:=by omega
    clear k01
    by_cases hk:k=kind
    ·rw [if_neg (by simp [hk])] at hr
     subst hk
     cases hq:(nm.toList==v.toList)<;>rw [hq] at hr
     ·rw [if_neg (by simp)] at hr
      rcases k02 with rfl | rfl
      all_goals
       go_wp2_with fail
       go_round
       case rel=>exact ⟨i+1,n+1,a,by omega,by omega,rfl,by go_num,by go_num,hr⟩
       case measure=>simp [intOf];omega
     ·by_cases ha:a<0
      ·rw [if_pos (by simp [ha])] at hr
       have ha2:decide (a<0)=true:=decide_eq_true ha
       rcases k02 with rfl | rfl
       all_goals
        go_wp2_with fail
        go_round
        case rel=>exact ⟨i+1,n+1,n,by omega,by omega,rfl,by go_num,by go_num,hr⟩
        case measure=>simp [intOf];omega
      ·rw [if_neg (by simp [ha])] at hr
       have ha2:decide (a<0)=false:=decide_eq_false ha
       have ha3:0<=a:=by omega
       rcases k02 with rfl | rfl
       all_goals
        go_wp2_with fail
        go_round
        case rel=>exact ⟨i+1,n+1,a,by omega,by omega,rfl,by go_num,by go_num,hr⟩
        case measure=>simp [intOf];omega
    ·rw [if_pos hk] at hr
     have hk1:(k==kind)=false:=by rw [beq_eq_false_iff_ne];exact hk
     have hk2:((0:Int)==1)=false:=rfl
     rcases k02 with rfl | rfl
     all_goals
      go_wp2_with fail
      go_round
      case rel=>exact ⟨i+1,n,a,by omega,by omega,rfl,rfl,by go_num,hr⟩
      case measure=>simp [intOf];omega
  ·have HE:Hid (declOf ns kind v.toList to=(a,n)):=by unfold Hid;rw [hr.out,List.drop_of_length_le (by simp;omega)];rfl
   clear hr
   go_wp2_with fail
   go_ret2
   rw [HE.out]
   exact ⟨rfl,rfl⟩
end
end Go.Proofs.YtenoopfeplalnaaGreatDoor
