import Derived.Test.YtenoopfeplalnaaGreatDoorCards
import Derived.Test.YtenoopfeplalnaaGreatDoorTie
import Derived.LaidMore
import Derived.SevenTiedAt
import Derived.Stop.LaidErr
import Derived.Lib.SmallJoins
import Derived.Deep.DeepWitnessRowRef
import Derived.Test.YtenoopfeplalnaaGreatDoorKJh
import Derived.Test.YtenoopfeplalnaaGreatDoorKTi
set_option maxHeartbeats 8000000
set_option linter.all false
namespace Go.Proofs.YtenoopfeplalnaaGreatDoor
section
open Go.RowKit
def LPr (w:World) (l:List UInt8) (e:Ending) (w':World):Prop :=
 (∃ (ns:List Nd) (u:Nat->Value),TxtP l ns/\e=.returned (.agg #[u 0,u 1,u 2,u 3,u 4,u 5])/\PrIs w' w.heap.size u ns (programR ns).2.2/\∀ n∈ns,n.Fit)
 \/ (TxtN l/\e=.returned (.agg #[.slice none 0 0,.slice none 0 0,.slice none 0 0,.slice none 0 0,.slice none 0 0,.slice none 0 0]))
set_option maxRecDepth 100000 in
theorem zx2 (s:ByteArray) (w:World) :
  Calls Tryz.prog 4 #[.string s,.int .i64 0] w fun e w'=>LPr w s.toList e w'/\Ok w w':=by
 go_enter Tryz.func4,Tryz.ntmps4
 go_wp2_with fail
 refine (yr6 s _).mono ?_
 rintro e w1 ⟨ht,hok⟩
 have HX:Hid (Six w1 w.heap.size (.slice none 0 0) (.slice none 0 0) (.slice none 0 0) (.slice none 0 0) (.slice none 0 0) (.slice none 0 0)):=(Six.new w _ _ _ _ _ _).below hok
 have HK:Hid (Ok w w1):=((Ok.refl w).alloc _).step hok
 obtain ⟨z1,c0,c1,c2,c3,c4,c5⟩:=HX.out.pc
 have wf:=HX.out.warm
 have hT:(∃ (ns:List Nd) (u:Nat->Value),TxtP s.toList ns/\e=.returned (.tuple #[.agg #[u 0,u 1,u 2,u 3,u 4,u 5],.int .i64 0,.int .i64 0])/\PrIs w1 (w.heap.size+1) u ns (programR ns).2.2/\∀ n∈ns,n.Fit)\/(TxtN s.toList/\∃ er at0:Int,er≠0/\e=.returned (.tuple #[.agg #[.slice none 0 0,.slice none 0 0,.slice none 0 0,.slice none 0 0,.slice none 0 0,.slice none 0 0],.int .i64 er,.int .i64 at0])):=by
  unfold TextIs at ht
  cases hl:lexS s.toList with
  | inl p =>
   rw [hl] at ht
   obtain ⟨er,at0⟩:=p
   exact .inr ⟨.inl ⟨_,hl⟩,_,_,by have:=ht.1;omega,ht.2⟩
  | inr ts =>
   rw [hl] at ht
   obtain ⟨P,h1,h2,h3⟩:=ht
   subst h1
   rcases h3 with ⟨k1,k2,u,k3,k4,k5⟩ | ⟨k1,er,at0,k2,k3⟩
   ·exact .inl ⟨_,u,⟨P,hl,h2,k1,rfl,k2⟩,k3,by simpa using k4,k5⟩
   ·exact .inr ⟨.inr ⟨P,hl,h2,k1⟩,er,at0,k2,k3⟩
 clear ht hok
 rcases hT with ⟨ns,u,hP,rfl,hu,hf⟩ | ⟨hn,er,at0,he,rfl⟩
 ·have HP:Hid (TxtP s.toList ns/\PrIs w1 (w.heap.size+1) u ns (programR ns).2.2/\∀ n∈ns,n.Fit):=⟨hP,hu,hf⟩
  clear hP hu hf
  obtain ⟨o0,p0,e0⟩:=za0 (HP.out.2.1 0 (by decide))
  obtain ⟨o1,p1,e1⟩:=za0 (HP.out.2.1 1 (by decide))
  obtain ⟨o2,p2,e2⟩:=za0 (HP.out.2.1 2 (by decide))
  obtain ⟨o3,p3,e3⟩:=za0 (HP.out.2.1 3 (by decide))
  obtain ⟨o4,p4,e4⟩:=za0 (HP.out.2.1 4 (by decide))
  obtain ⟨o5,p5,e5⟩:=za0 (HP.out.2.1 5 (by decide))
  have HEE:Hid (u 0=_/\u 1=_/\u 2=_/\u 3=_/\u 4=_/\u 5=_):=⟨e0,e1,e2,e3,e4,e5⟩
  rw [e0,e1,e2,e3,e4,e5]
  clear e0 e1 e2 e3 e4 e5
  go_wp2_with fail
  try simp only [Exit.inBlock,Exit.then]
  refine bodyPost_ret (results_cell_row rfl _ _ w.heap.size 30 #[_,_,_,_,_,_] (0,0) _ rfl (heap_past _ _ _ (za2 (zd2 HX.out.heap _ _ _ _ _ _)) (zd2 HX.out.heap _ _ _ _ _ _)) Tryz.underlying30 rfl Tryz.info30) rfl ?_
  refine ⟨.inl ⟨ns,u,HP.out.1,?_,?_,HP.out.2.2⟩,(show Ok w _ from zc9 HK.out (Nat.le_refl _) _ _ _ _ _ _).alloc _⟩
  ·obtain ⟨e0,e1,e2,e3,e4,e5⟩:=HEE.out
   rw [e0,e1,e2,e3,e4,e5]
  ·intro k hk
   exact za8 (World.ownsRow.alloc (zH6 (HP.out.2.1 k hk) (by omega) _ _ _ _ _ _) _) (by omega)
 ·have HC:Hid (TxtN s.toList):=hn
  clear hn he
  go_wp2_with fail
  try simp only [Exit.inBlock,Exit.then]
  refine bodyPost_ret (results_cell_row rfl _ _ w.heap.size 30 #[_,_,_,_,_,_] (0,0) _ rfl (heap_past _ _ _ (za2 (zd2 HX.out.heap _ _ _ _ _ _)) (zd2 HX.out.heap _ _ _ _ _ _)) Tryz.underlying30 rfl Tryz.info30) rfl ?_
  exact ⟨.inr ⟨HC.out,rfl⟩,(show Ok w _ from zc9 HK.out (Nat.le_refl _) _ _ _ _ _ _).alloc _⟩
end
section
open Go.RowKit Go.Maps
theorem lk_ok {ns:List Nd} {l:Ls} {c:Nat->Int} {ts:List Int} (h:badP ns l c ts=0):LkB (spR ns c).2.2/\(spR ns c).2.1.length<=1806/\0<(spR ns c).2.1.length:=by
 obtain ⟨hg,hr⟩:=zt3 h
 have hc:=zz8 hr
 have hG:=gr_ok hg
 have hF:=yc8 h
 obtain ⟨R,hR⟩:∃ R,R=spR ns c:=⟨_,rfl⟩
 rw [<-hR] at hF ⊢
 have hv:R.2.1.length<=1806:=by
  have h1:=hF.vi.len (N:=ptN ns) hG.wit
  have h2:(plOf (c 2).toNat (c 0) (c 1) (elF ns) R.1).cap=(c 2).toNat:=rfl
  rw [h2] at h1
  have h3:=Nat.mul_le_mul hG.pts (show (c 2).toNat<=6 by omega)
  omega
 have he:(plOf (c 2).toNat (c 0) (c 1) (elF ns) R.1).es=elF ns:=rfl
 refine ⟨⟨?_,fun x hx=>?_⟩,hv,?_⟩
 ·obtain ⟨LL,k1,k2,k3⟩:=hF.rows
  rw [k2]
  refine Nat.le_trans (zs9 (M:=600) LL fun row hrow=>?_) (by rw [k1];omega)
  obtain ⟨i,hi⟩:=List.mem_iff_getElem?.1 hrow
  obtain ⟨v,_,h2⟩:=k3 i row hi
  rw [h2.1]
  exact Nat.le_trans (zq6 _ _) (by rw [he];exact hG.els)
 ·obtain ⟨v,e,a1,a2,a3,a4⟩:=hF.link hx
  have b1:=(List.getElem?_eq_some_iff.1 a1).1
  have b2:=(List.getElem?_eq_some_iff.1 a2).1
  have b3:=(List.getElem?_eq_some_iff.1 a4).1
  rw [he] at b2
  have:=hG.els
  omega
 ·exact (List.getElem?_eq_some_iff.1 hF.first).1
theorem yd7 (v:Nat->Value) (c:Nat->Int) (ts:List Int) (tz:Option Addr) (tc:Nat) (ns:List Nd) (l:Ls) (pv:Value) (path:List Int) (w:World) (hE:PEnv w) (h:ProgIs w (v 0) (v 1) (v 2) (v 3) (v 4) (v 5) ns l) (hts:SL w 1 (.slice tz ts.length tc) ts.length (ilL ts)) (hp:SL w 1 pv path.length (ilL path)) (hpl:path.length<=100000) (hpw:∀ y∈path,(Lit.int .i64 y).wf=true) :
  Calls Tryz.prog 6 #[.agg #[v 0,v 1,v 2,v 3,v 4,v 5],.agg #[.int .i64 (c 0),.int .i64 (c 1),.int .i64 (c 2),.int .i64 (c 3),.int .i64 (c 4),.int .i64 (c 5),.slice tz ts.length tc,.int .i64 (c 7),.int .i64 (c 8)],pv] w fun e w'=>e=.returned (.tuple #[.int .i64 (flV (badP ns l c ts) (spR ns c).2.2 path).1,.int .i64 (flV (badP ns l c ts) (spR ns c).2.2 path).2])/\Ok w w':=by
 have hS:∀ Y,Ok w Y->Calls Tryz.prog 5 #[.agg #[v 0,v 1,v 2,v 3,v 4,v 5],.agg #[.int .i64 (c 0),.int .i64 (c 1),.int .i64 (c 2),.int .i64 (c 3),.int .i64 (c 4),.int .i64 (c 5),.slice tz ts.length tc,.int .i64 (c 7),.int .i64 (c 8)]] Y fun e w'=>SpG Y (badP ns l c ts) (ptN ns) (spR ns c) e w':=fun Y hY=>zt4 v c ts tz tc ns l Y (hE.ok hY) (h.below hY) (hts.below hY)
 by_cases hb:badP ns l c ts=0
 ·rw [hb] at hS ⊢
  exact yd4 v c tz ts.length tc pv path (ptN ns) (spR ns c) _ w (yc8 hb) (lk_ok hb).1 hp hpl hpw hS
 ·refine (zT2 v c tz ts.length tc pv (badP ns l c ts) (ptN ns) (spR ns c) w hb hS).mono ?_
  rintro e w' ⟨rfl,hk⟩
  refine ⟨?_,hk⟩
  unfold flV
  rw [if_neg hb]
def PgIs (w:World) (e:Ending) (w':World) (ns:List Nd) (l:Ls) (v:Nat->Value):Prop:=e=.returned (.agg #[v 0,v 1,v 2,v 3,v 4,v 5])/\(∀ i,i<6->∃ ao n c,v i=.slice ao n c)/\ProgIs w' (v 0) (v 1) (v 2) (v 3) (v 4) (v 5) ns l/\Ok w w'
theorem PgIs.of {w:World} {l:List UInt8} {e:Ending} {w':World} (h:LPr w l e w') (hk:Ok w w'):∃ ns m v,PgIs w e w' ns m v:=by
 rcases h with ⟨ns,u,hP,he,hu,hf⟩ | ⟨hn,he⟩
 ·exact ⟨ns,_,u,he,fun i hi=>by obtain ⟨o,c,e⟩:=za0 (hu i hi);exact ⟨_,_,_,e⟩,hu.prog fun n hn=>yh1 (hf n hn),hk⟩
 ·exact ⟨[],ls0,fun _=>.slice none 0 0,he,fun i hi=>⟨_,_,_,rfl⟩,⟨⟨fun n hn=>(by cases hn),none,0,rfl,Nat.zero_le _,by decide,.inl rfl⟩,⟨⟨by decide,none,0,rfl,.inl rfl⟩,⟨by decide,none,0,rfl,.inl rfl⟩,⟨by decide,none,0,rfl,.inl rfl⟩,⟨by decide,none,0,rfl,.inl rfl⟩,⟨by decide,none,0,rfl,.inl rfl⟩⟩⟩,hk⟩
end
section
open Go.RowKit Go.Maps
def txt20:List UInt8:=[118,97,114,32,120,59,32,105,110,112,117,116,32,120,59,32,105,102,32,120,32,60,32,48,32,123,32,120,32,58,61,32,49,59,32,125,32,101,108,115,101,32,123,32,115,107,105,112,59,32,125,32,119,104,105,108,101,32,120,32,60,32,57,32,123,32,120,32,58,61,32,120,32,43,32,49,59,32,125]
def ts20:List Tk:=match lexS txt20 with | .inr t=>t | .inl _=>[]
theorem zP3:lexS txt20=.inr ts20:=by kernel_rfl
def ns20:List Nd:=(parE (⟨.nilFunc,0,[],ts20,79⟩:RP)).2.2
theorem yp0 (tv:Value) (B:Nat) (xs:List Value):parE (⟨tv,B,xs,ts20,79⟩:RP)=(0,0,ns20):=by kernel_rfl
theorem zF1:(programR ns20).1=0:=by kernel_rfl
theorem yd8 {P:RP} (h1:lexS txt20=.inr P.ts) (h2:P.en=txt20.length):parE P=(0,0,ns20):=by
 obtain ⟨tv,B,xs,ts,en⟩:=P
 rw [zP3] at h1
 injection h1 with h1
 subst h1
 have e:en=79:=h2
 subst e
 exact yp0 tv B xs
theorem yp1 {ns:List Nd} (h:TxtP txt20 ns):ns=ns20:=by
 obtain ⟨P,h1,h2,_,h3,_⟩:=h
 rw [yd8 h1 h2] at h3
 exact h3.symm
theorem yp2:¬TxtN txt20:=by
 rintro (⟨p,h⟩ | ⟨P,h1,h2,h3⟩)
 ·rw [zP3] at h;cases h
 ·rw [yd8 h1 h2] at h3
  exact h3 rfl zF1
def cf1:Nat->Int
 | 0=>1
 | 2=>6
 | _=>0
def cf2:Nat->Int
 | 2=>1
 | _=>0
theorem yy7:refuse cf1 []=0:=by kernel_rfl
theorem yy8:refuse cf2 []=0:=by kernel_rfl
theorem yC5:(decide (8<=(spR ns20 cf1).2.1.length)&&(decide ((mgL (ptN ns20) (spR ns20 cf1).1).length=0)&&decide ((spR ns20 cf1).2.1.length<=(spR ns20 cf1).2.2.length)))=true:=by kernel_rfl
theorem yC6:goP (spR ns20 cf2).2.2 0 [0]=some 1:=by kernel_rfl
set_option maxRecDepth 100000 in
theorem yd9 (w:World) (hE:PEnv w) :
  Calls Tryz.prog 7 #[] w fun e w'=>e=.returned (.bool true)/\Ok w w':=by
 have HE:=hid hE
 clear hE
 go_enter Tryz.func7,Tryz.ntmps7
 go_wp2_with fail
 refine (zx2 _ w).mono ?_
 rintro e w1 ⟨ht,hk1⟩
 have htx:∀ s:ByteArray,s.data.toList=txt20->s.toList=txt20:=fun s h=>by rw [ByteArray.toList_eq];exact h
 rw [htx _ rfl] at ht
 rcases ht with ⟨ns,v,h1,rfl,h2,h3⟩ | ⟨h1,_⟩
 rotate_left
 ·exact absurd h1 yp2
 have hns:=yp1 h1
 subst hns
 obtain ⟨m,hm⟩:∃ x,x=(programR ns20).2.2:=⟨_,rfl⟩
 rw [<-hm] at h2
 have HK1:Hid (Ok w w1):=hk1
 have hok:∀ n∈ns20,n.Ok:=fun n hn=>yh1 (h3 n hn)
 have hgd:goodD ns20 m=true:=by rw [hm];exact yo3 hok zF1
 have hb1:badP ns20 m cf1 []=0:=by unfold badP;rw [if_pos hgd];exact yy7
 have hb2:badP ns20 m cf2 []=0:=by unfold badP;rw [if_pos hgd];exact yy8
 have hpr:ProgIs w1 (v 0) (v 1) (v 2) (v 3) (v 4) (v 5) ns20 m:=h2.prog hok
 have hnl:∀ Y:World,SL Y 1 (.slice none ([]:List Int).length 0) ([]:List Int).length (ilL []):=fun Y=>⟨rfl,fun u hu=>(by cases hu),none,0,rfl,.inl rfl⟩
 have hsp:∀ Y,Ok w1 Y->Calls Tryz.prog 5 #[.agg #[v 0,v 1,v 2,v 3,v 4,v 5],.agg #[.int .i64 1,.int .i64 0,.int .i64 6,.int .i64 0,.int .i64 0,.int .i64 0,.slice none 0 0,.int .i64 0,.int .i64 0]] Y fun e w'=>PsIs Y (ptN ns20) (spR ns20 cf1) e w':=fun Y hY =>
  (zt4 v cf1 [] none 0 ns20 m Y (HE.out.ok (HK1.out.step hY)) (hpr.below hY) (hnl Y)).mono fun e w' h=>h.elim (fun h=>absurd hb1 h.1) (fun h=>h.2)
 have hfo:∀ Y pv,Ok w1 Y->SL Y 1 pv 1 (ilL [0])->Calls Tryz.prog 6 #[.agg #[v 0,v 1,v 2,v 3,v 4,v 5],.agg #[.int .i64 0,.int .i64 0,.int .i64 1,.int .i64 0,.int .i64 0,.int .i64 0,.slice none 0 0,.int .i64 0,.int .i64 0],pv] Y fun e w'=>e=.returned (.tuple #[.int .i64 1,.int .i64 0])/\Ok Y w':=fun Y pv hY hs=>by
  have h:=yd7 v cf2 [] none 0 ns20 m pv [0] Y (HE.out.ok (HK1.out.step hY)) (hpr.below hY) (hnl Y) hs (by decide) (fun y hy=>by rw [List.mem_singleton.1 hy];rfl)
  have hf:flV (badP ns20 m cf2 []) (spR ns20 cf2).2.2 [0]=(1,0):=by unfold flV;rw [if_pos hb2,yC6];rfl
  rw [hf] at h
  exact h
 obtain ⟨o0,p0,e0⟩:=za0 (h2 0 (by decide))
 obtain ⟨o1,p1,e1⟩:=za0 (h2 1 (by decide))
 obtain ⟨o2,p2,e2⟩:=za0 (h2 2 (by decide))
 obtain ⟨o3,p3,e3⟩:=za0 (h2 3 (by decide))
 obtain ⟨o4,p4,e4⟩:=za0 (h2 4 (by decide))
 obtain ⟨o5,p5,e5⟩:=za0 (h2 5 (by decide))
 rw [e0,e1,e2,e3,e4,e5] at hsp hfo
 rw [e0,e1,e2,e3,e4,e5]
 obtain ⟨n0,hn0⟩:∃ x,x=nOf ns20.length m 0:=⟨_,rfl⟩
 obtain ⟨n1,hn1⟩:∃ x,x=nOf ns20.length m 1:=⟨_,rfl⟩
 obtain ⟨n2,hn2⟩:∃ x,x=nOf ns20.length m 2:=⟨_,rfl⟩
 obtain ⟨n3,hn3⟩:∃ x,x=nOf ns20.length m 3:=⟨_,rfl⟩
 obtain ⟨n4,hn4⟩:∃ x,x=nOf ns20.length m 4:=⟨_,rfl⟩
 obtain ⟨n5,hn5⟩:∃ x,x=nOf ns20.length m 5:=⟨_,rfl⟩
 rw [<-hn0,<-hn1,<-hn2,<-hn3,<-hn4,<-hn5] at hsp hfo ⊢
 have HSP:=hid hsp
 have HFO:=hid hfo
 clear hk1 h1 h2 h3 hm hok hgd hb1 hb2 hpr hnl hsp hfo e0 e1 e2 e3 e4 e5 hn0 hn1 hn2 hn3 hn4 hn5 htx
 go_wp2_with fail
 obtain ⟨W,hW⟩:∃ z,z=w1.alloc (Obj.cells #[.slice o0 n0 p0,.slice o1 n1 p1,.slice o2 n2 p2,.slice o3 n3 p3,.slice o4 n4 p4,.slice o5 n5 p5] 30):=⟨_,rfl⟩
 obtain ⟨gP,hgP⟩:∃ g,g=w1.heap.size:=⟨_,rfl⟩
 rw [<-hW,<-hgP]
 have HKW:Hid (Ok w1 W):=by unfold Hid;rw [hW];exact (Ok.refl _).alloc _
 have HPW:Hid (W.heap[gP]?=some (.cells #[.slice o0 n0 p0,.slice o1 n1 p1,.slice o2 n2 p2,.slice o3 n3 p3,.slice o4 n4 p4,.slice o5 n5 p5] 30 (0,0))):=by unfold Hid;rw [hW,hgP];exact za4 _ _
 clear hW hgP
 refine (HSP.out W HKW.out).mono ?_
 rintro e w2 ⟨vv,lv,mv,rfl,⟨tl,_,hvv,_⟩,hlv,hmv,hk2⟩
 have HK2:Hid (Ok W w2):=hk2
 obtain ⟨vo,vc,rfl⟩:=za0 hvv
 obtain ⟨lo,lc,rfl⟩:=za0 hlv
 obtain ⟨mo,mc,rfl⟩:=za0 hmv
 obtain ⟨vn,hvn⟩:∃ x,x=(spR ns20 cf1).2.1.length:=⟨_,rfl⟩
 obtain ⟨ln,hln⟩:∃ x,x=(spR ns20 cf1).2.2.length:=⟨_,rfl⟩
 obtain ⟨mn,hmn⟩:∃ x,x=(mgL (ptN ns20) (spR ns20 cf1).1).length:=⟨_,rfl⟩
 have hfx:=yC5
 rw [<-hvn,<-hln,<-hmn] at hfx ⊢
 simp only [Bool.and_eq_true,decide_eq_true_eq] at hfx
 obtain ⟨hx1,hx2,hx3⟩:=hfx
 have hd1:decide ((vn:Int)<8)=false:=decide_eq_false (by omega)
 have hd2:((mn:Int) != 0)=false:=by rw [hx2];rfl
 have hd3:decide ((ln:Int)<(vn:Int))=false:=decide_eq_false (by omega)
 have hi1:¬(vn:Int)<8:=by omega
 have hi3:¬(ln:Int)<(vn:Int):=by omega
 have hb2:((mn:Int)==0)=true:=by rw [hx2];rfl
 clear hvv hlv hmv hk2 hvn hln hmn hx1 hx2 hx3
 obtain ⟨q0,q1,q2,q3,q4,q5,lgq⟩:=row6 (Ok.row' HK2.out HPW.out)
 have hsl:=SL.one (s:=1) (w2.alloc (Obj.cells #[.slice vo vn vc,.slice lo ln lc,.slice mo mn mc] 35)) 3 [.int .i64 0] rfl (by simp [Value.oneCell'])
 rw [show (w2.alloc (Obj.cells #[.slice vo vn vc,.slice lo ln lc,.slice mo mn mc] 35)).heap.size=w2.heap.size+1 from by simp] at hsl
 have HSL:Hid (SL ((w2.alloc (Obj.cells #[.slice vo vn vc,.slice lo ln lc,.slice mo mn mc] 35)).alloc (Obj.cells #[.int .i64 0] 3)) 1 (.slice (some ⟨w2.heap.size+1,0,none⟩) 1 1) 1 (ilL [0])):=hsl
 clear hsl
 go_wp2_with fail
 refine (HFO.out _ _ (((HKW.out.step HK2.out).alloc _).alloc _) HSL.out).mono ?_
 rintro e w3 ⟨rfl,hk3⟩
 have HK3:Hid (Ok w w3):=HK1.out.step ((((HKW.out.step HK2.out).alloc _).alloc _).step hk3)
 clear hk3
 go_wp2_with fail
 go_ret
 exact ⟨rfl,HK3.out⟩
end
section
open Go.ChangeShapes Go.WideShapes Go.ChangeAt Go.RowKit
theorem own:ownKnob Tryz.prog.godebug=none:=by kernel_rfl
set_option maxRecDepth 100000 in
theorem yp3 (os:Os) (args:Array Value):laidMetH Tryz.prog Rows.partPathsRow.laid ((World.doorLaid Tryz.prog 4000 os).forCall (fun _ _=>0) ⟨#[],args,[]⟩).memory :=
 laidMetH_of_parts3 (fuel:=12) (laidMet_of_run' 12 (by kernel_rfl) (by kernel_rfl)) (by kernel_rfl) (by kernel_rfl)
section
variable {H:Type} {enc:TypeId×Value->H} {w:World} {base:Nat} {sp:Nat->Bool} {held:Bool}
theorem cellsA:Tryz.prog.cellsOf 228=1/\Tryz.prog.cellsOf 4=1/\Tryz.prog.cellsOf 2=1/\Tryz.prog.cellsOf 229=2/\Tryz.prog.cellsOf 230=3/\Tryz.prog.cellsOf 5=1/\Tryz.prog.cellsOf 232=9/\Tryz.prog.cellsOf 71=1:=by
 refine ⟨?_,?_,?_,?_,?_,?_,?_,?_⟩<;>kernel_rfl
theorem cellsB:Tryz.prog.cellsOf 168=2/\Tryz.prog.cellsOf 49=1:=by
 refine ⟨?_,?_⟩<;>kernel_rfl
set_option maxRecDepth 100000 in
theorem yy9 {fuel:Nat} {cs:List Value} {s:Bool} {l:Int} {p:List MemPlace} (h:DataW.trod enc Tryz.prog w base sp held fuel 168 cs=some (.agg [.lit (.bool s),.lit (.int .i64 l)],p)) :
  cs=[.bool s,.int .i64 l]:=by
 obtain ⟨xs,m,_,hx,hl,hlen,hf⟩:=DataW.trod_struct Tryz.underlying168 h
 rw [cellsB.1] at hl
 match xs,hlen,cs,hl with
 | [y0,y1],_,[c0,c1],_ =>
  have h0:DataW.trod enc Tryz.prog w base sp held m 4 (([c0,c1].drop 0).take (Tryz.prog.cellsOf 4))=some y0:=hf 0 _ rfl
  rw [cellsA.2.1,show ([c0,c1].drop 0).take 1=[c0] from rfl] at h0
  have h1:DataW.trod enc Tryz.prog w base sp held m 49 (([c0,c1].drop 1).take (Tryz.prog.cellsOf 49))=some y1:=hf 1 _ rfl
  rw [cellsB.2,show ([c0,c1].drop 1).take 1=[c1] from rfl] at h1
  obtain ⟨s',e0,r0⟩:=DataW.trod_bool Tryz.underlying4 h0
  obtain ⟨l',e1,r1,_⟩:=DataW.trod_int Tryz.underlying49 h1
  simp only [List.cons.injEq,and_true] at e0 e1
  subst e0 e1 r0 r1
  simp only [List.map_cons,List.map_nil,Prod.mk.injEq,DataW.agg.injEq,List.cons.injEq,DataW.lit.injEq,Lit.bool.injEq,Lit.int.injEq,and_true,true_and] at hx
  obtain ⟨⟨rfl,rfl⟩,_⟩:=hx
  rfl
set_option maxRecDepth 100000 in
theorem yz0 {fuel:Nat} {cs:List Value} {a0 a2 a3 a4 a5 a6 a7 a8:Int} {a1:Bool} {p:List MemPlace}
  (h:DataW.trod enc Tryz.prog w base sp held fuel 232 cs=some (.agg [.lit (.int .u8 a0),.lit (.bool a1),.lit (.int .i64 a2),.agg [.lit (.int .i64 a3),.lit (.int .i64 a4)],.agg [.lit (.int .u8 a5),.lit (.int .u8 a6),.lit (.int .u8 a7)],.lit (.int .u8 a8)],p)) :
  cs=[.int .u8 a0,.bool a1,.int .i64 a2,.int .i64 a3,.int .i64 a4,.int .u8 a5,.int .u8 a6,.int .u8 a7,.int .u8 a8]:=by
 obtain ⟨xs,m,_,hx,hl,hlen,hf⟩:=DataW.trod_struct Tryz.underlying232 h
 obtain ⟨c71,c4,c2,c72,c73,c5,c75,c29⟩:=cellsA
 rw [c75] at hl
 match xs,hlen,cs,hl with
 | [y0,y1,y2,y3,y4,y5],_,[k0,k1,k2,k3,k4,k5,k6,k7,k8],_ =>
  have h0:DataW.trod enc Tryz.prog w base sp held m 228 (([k0,k1,k2,k3,k4,k5,k6,k7,k8].drop 0).take (Tryz.prog.cellsOf 228))=some y0:=hf 0 _ rfl
  rw [c71,show ([k0,k1,k2,k3,k4,k5,k6,k7,k8].drop 0).take 1=[k0] from rfl] at h0
  have h1:DataW.trod enc Tryz.prog w base sp held m 4 (([k0,k1,k2,k3,k4,k5,k6,k7,k8].drop 1).take (Tryz.prog.cellsOf 4))=some y1:=hf 1 _ rfl
  rw [c4,show ([k0,k1,k2,k3,k4,k5,k6,k7,k8].drop 1).take 1=[k1] from rfl] at h1
  have h2:DataW.trod enc Tryz.prog w base sp held m 2 (([k0,k1,k2,k3,k4,k5,k6,k7,k8].drop 2).take (Tryz.prog.cellsOf 2))=some y2:=hf 2 _ rfl
  rw [c2,show ([k0,k1,k2,k3,k4,k5,k6,k7,k8].drop 2).take 1=[k2] from rfl] at h2
  have h3:DataW.trod enc Tryz.prog w base sp held m 229 (([k0,k1,k2,k3,k4,k5,k6,k7,k8].drop 3).take (Tryz.prog.cellsOf 229))=some y3:=hf 3 _ rfl
  rw [c72,show ([k0,k1,k2,k3,k4,k5,k6,k7,k8].drop 3).take 2=[k3,k4] from rfl] at h3
  have h4:DataW.trod enc Tryz.prog w base sp held m 230 (([k0,k1,k2,k3,k4,k5,k6,k7,k8].drop 5).take (Tryz.prog.cellsOf 230))=some y4:=hf 4 _ rfl
  rw [c73,show ([k0,k1,k2,k3,k4,k5,k6,k7,k8].drop 5).take 3=[k5,k6,k7] from rfl] at h4
  have h5:DataW.trod enc Tryz.prog w base sp held m 5 (([k0,k1,k2,k3,k4,k5,k6,k7,k8].drop 8).take (Tryz.prog.cellsOf 5))=some y5:=hf 5 _ rfl
  rw [c5,show ([k0,k1,k2,k3,k4,k5,k6,k7,k8].drop 8).take 1=[k8] from rfl] at h5
  obtain ⟨z0,e0,r0,_⟩:=DataW.trod_int Tryz.underlying228 h0
  obtain ⟨z1,e1,r1⟩:=DataW.trod_bool Tryz.underlying4 h1
  obtain ⟨z2,e2,r2,_⟩:=DataW.trod_int Tryz.underlying2 h2
  obtain ⟨z8,e8,r8,_⟩:=DataW.trod_int Tryz.underlying5 h5
  simp only [List.map_cons,List.map_nil,Prod.mk.injEq,DataW.agg.injEq,List.cons.injEq,and_true] at hx
  obtain ⟨⟨hx0,hx1,hx2,hx3,hx4,hx5⟩,_⟩:=hx
  have g3:[k3,k4]=[a3,a4].map fun z=>Value.int .i64 z:=Lib.cells_of_tab (p:=y3.2) Tryz.underlying229 Tryz.underlying71 c29 c72 (by rw [h3,show Lib.tabData .i64 [a3,a4]=y3.1 from hx3])
  have g4:[k5,k6,k7]=[a5,a6,a7].map fun z=>Value.int .u8 z:=Lib.cells_of_tab (p:=y4.2) Tryz.underlying230 Tryz.underlying228 c71 c73 (by rw [h4,show Lib.tabData .u8 [a5,a6,a7]=y4.1 from hx4])
  simp only [List.map_cons,List.map_nil,List.cons.injEq,and_true] at g3 g4 e0 e1 e2 e8
  obtain ⟨rfl,rfl⟩:=g3
  obtain ⟨rfl,rfl,rfl⟩:=g4
  subst e0 e1 e2 e8 r0 r1 r2 r8
  simp only [DataW.lit.injEq,Lit.int.injEq,Lit.bool.injEq,true_and] at hx0 hx1 hx2 hx5
  subst hx0 hx1 hx2 hx5
  rfl
end
def stepData {H:Type}:DataW H:=.agg ((List.range 16).map fun k=>.agg [.lit (.bool (decide (2<=k)&&decide (k<=8))),.lit (.int .i64 (opT.getD k 0))])
def ruleData {H:Type}:DataW H:=.agg ((List.range 16).map fun k=>.agg [.lit (.int .u8 (rSort k)),.lit (.bool (rNamed k)),.lit (.int .i64 (rMost k)),.agg [.lit (.int .i64 (rOp0 k)),.lit (.int .i64 (rOp1 k))],.agg [.lit (.int .u8 (rH0 k)),.lit (.int .u8 (rH1 k)),.lit (.int .u8 (rH2 k))],.lit (.int .u8 (rWant k))])
theorem zJ9:Rows.laid_winnow_cfg_steps (H:=Unit)=stepData:=rfl
theorem zK0:Rows.laid_winnow_parse_rules (H:=Unit)=ruleData:=rfl
theorem zP4 {P:Program} {W:World} {name:String} {ds:List (DataW Unit)} {rest:List (String×DataW Unit)} {g:Nat} {t e:TypeId} {n c:Nat}
  (hg:P.globalNamed name=some g) (hty:(P.globals[g]?).map (·.type)=some t) (ht:P.underlying t=some (.array n e)) (hce:P.cellsOf e=c)
  (h:laidMet P ((name,.agg ds)::rest) W):∃ (cs:Array Value) (enc:TypeId×Value->Unit) (base:Nat) (sp:Nat->Bool) (held:Bool) (m:Nat),W.var? P name=some cs/\ds.length=n /\
   ∀ i d,ds[i]?=some d->∃ p,DataW.trod enc P W base sp held m e ((cs.toList.drop (i*c)).take c)=some (d,p):=by
 obtain ⟨ps,⟨g',t',cs,fuel,p,q,hg',ht',hvar,hd,_,_⟩,_⟩:=h
 obtain rfl:=Option.some.inj (hg.symm.trans hg')
 obtain rfl:=Option.some.inj (hty.symm.trans ht')
 obtain ⟨xs,m,_,hx,_,hlen,hel⟩:=DataW.trod_array ht hd
 have hds:ds=xs.map (·.1):=by
  have:=congrArg Prod.fst hx
  simpa using this
 refine ⟨cs,fun _=>(),0,fun _=>true,false,m,hvar,by rw [hds];simpa using hlen,?_⟩
 intro i d hi
 have hi':i<xs.length:=by
  have:=(List.getElem?_eq_some_iff.1 hi).1
  rw [hds] at this
  simpa using this
 have h9:=hel i (by omega)
 rw [hce] at h9
 refine ⟨xs[i].2,?_⟩
 rw [h9,List.getElem?_eq_getElem hi']
 rw [hds,List.getElem?_map,List.getElem?_eq_getElem hi'] at hi
 have:xs[i].1=d:=by simpa using hi
 rw [<-this]
theorem ze9 {cs:List Value} {i c j:Nat} {l:List Value} {v:Value} (h:(cs.drop (i*c)).take c=l) (hj:l[j]?=some v):cs[i*c+j]?=some v:=by
 rw [<-h,List.getElem?_take] at hj
 split at hj
 ·rw [List.getElem?_drop] at hj;exact hj
 ·cases hj
theorem ye0 {W:World} {b o:Nat} {v:Value} (h:W.cell? ⟨b,o,none⟩=some v):b<W.heap.size:=by
 rcases Nat.lt_or_ge b W.heap.size with hh | hh
 ·exact hh
 ·simp [World.cell?,Array.getElem?_eq_none hh] at h
theorem zz9 {W:World} {rest:List (String×DataW Unit)} (h:laidMet Tryz.prog (("winnow/cfg.steps",Rows.laid_winnow_cfg_steps)::rest) W):StepsIs W:=by
 rw [zJ9] at h
 have hg:Tryz.prog.globalNamed "winnow/cfg.steps" = some 3:=by kernel_rfl
 obtain ⟨cs,enc,base,sp,held,m,hvar,_,hel⟩:=zP4 (g:=3) (t:=169) hg (by kernel_rfl) Tryz.underlying169 cellsB.1 h
 have key:∀ k,k<16->(cs.toList.drop (k*2)).take 2=[.bool (decide (2<=k)&&decide (k<=8)),.int .i64 (opT.getD k 0)]:=by
  intro k hk
  obtain ⟨p,hp⟩:=hel k _ (by rw [List.getElem?_map,List.getElem?_range hk];rfl)
  exact yy9 hp
 have cell:∀ (j:Nat) (v:Value),cs.toList[j]?=some v->W.cell? ⟨3,j,none⟩=some v:=by
  intro j v hv
  rw [World.var?_cell hg hvar j,<-Array.getElem?_toList]
  exact hv
 exact ⟨ye0 (cell _ _ (ze9 (j:=0) (key 0 (by decide)) rfl)),fun k hk=>cell _ _ (ze9 (j:=0) (key k hk) rfl),fun k hk=>cell _ _ (ze9 (j:=1) (key k hk) rfl)⟩
theorem zA0 {W:World} {rest:List (String×DataW Unit)} (h:laidMet Tryz.prog (("winnow/parse.rules",Rows.laid_winnow_parse_rules)::rest) W):RulesIs W:=by
 rw [zK0] at h
 have hg:Tryz.prog.globalNamed "winnow/parse.rules" = some 4:=by kernel_rfl
 obtain ⟨cs,enc,base,sp,held,m,hvar,_,hel⟩:=zP4 (g:=4) (t:=233) hg (by kernel_rfl) Tryz.underlying233 cellsA.2.2.2.2.2.2.1 h
 have key:∀ k,k<16->(cs.toList.drop (k*9)).take 9=[.int .u8 (rSort k),.bool (rNamed k),.int .i64 (rMost k),.int .i64 (rOp0 k),.int .i64 (rOp1 k),.int .u8 (rH0 k),.int .u8 (rH1 k),.int .u8 (rH2 k),.int .u8 (rWant k)]:=by
  intro k hk
  obtain ⟨p,hp⟩:=hel k _ (by rw [List.getElem?_map,List.getElem?_range hk];rfl)
  exact yz0 hp
 have cell:∀ (j:Nat) (v:Value),cs.toList[j]?=some v->W.cell? ⟨4,j,none⟩=some v:=by
  intro j v hv
  rw [World.var?_cell hg hvar j,<-Array.getElem?_toList]
  exact hv
 exact ⟨ye0 (cell _ _ (ze9 (j:=0) (key 0 (by decide)) rfl)),fun k hk=>cell _ _ (ze9 (j:=0) (key k hk) rfl),fun k hk=>cell _ _ (ze9 (j:=1) (key k hk) rfl),fun k hk=>cell _ _ (ze9 (j:=2) (key k hk) rfl),fun k hk=>cell _ _ (ze9 (j:=3) (key k hk) rfl),
  fun k hk=>cell _ _ (ze9 (j:=4) (key k hk) rfl),fun k hk=>cell _ _ (ze9 (j:=5) (key k hk) rfl),fun k hk=>cell _ _ (ze9 (j:=6) (key k hk) rfl),fun k hk=>cell _ _ (ze9 (j:=7) (key k hk) rfl),fun k hk=>cell _ _ (ze9 (j:=8) (key k hk) rfl)⟩
theorem yp4:((List.range Tryz.prog.types.size).filter fun t=>Tryz.prog.rowNamed t [101,114,114,111,114])=[81]:=by kernel_rfl
theorem yz1 {W:World} {x:String×DataW Unit} (hx:x=("errors.errorType",Rows.laid_errors_errorType)) (h:handlesMet Tryz.prog [x] W):W.cell? ⟨0,0,none⟩=some (.iface 174 (.agg #[.pointer (some ⟨8,81,none⟩)])):=by
 subst hx
 obtain ⟨name,u,ty,e1,e2,e3,e4,e5⟩:=h _ (List.mem_singleton.2 rfl)
 have en:name=[101,114,114,111,114]:=(Option.some.inj e1).symm
 subst en
 obtain rfl:=Option.some.inj ((show (Tryz.prog.cutTypes.find? (·.1 == "internal/reflectlite.rtype")).map (·.2)=some 174 by kernel_rfl).symm.trans e2)
 have hm:ty∈(List.range Tryz.prog.types.size).filter fun t=>Tryz.prog.rowNamed t [101,114,114,111,114]:=List.mem_filter.2 ⟨List.mem_range.2 e3,e4⟩
 rw [yp4] at hm
 obtain rfl:=List.mem_singleton.1 hm
 have hh:typeHandle Tryz.prog 81=.pointer (some ⟨8,81,none⟩):=by kernel_rfl
 rw [hh] at e5
 simpa using World.var?_cell (show Tryz.prog.globalNamed "errors.errorType" = some 0 by kernel_rfl) e5 0
theorem zF2 : "*" ++ "errors.errorString" = "*errors.errorString" := by decide
theorem yp5 (u:TypeId) (h:Tryz.prog.typeName? 3 u=some "*errors.errorString"):u=264 :=
 typeName_ptr_named (nm := "errors.errorString") (by rw [zF2];kernel_rfl) (by kernel_rfl) (by decide) u (by rw [zF2];exact h)
theorem zK1 {W:World} (h:laidMetH Tryz.prog Rows.partPathsRow.laid W):PEnv W:=by
 have h':laidMet Tryz.prog [("math/bits.deBruijn32tab",Rows.laid_math_bits_deBruijn32tab),("math/bits.deBruijn64tab",Rows.laid_math_bits_deBruijn64tab),("internal/strconv.uint64pow10",Rows.laid_internal_strconv_uint64pow10),("winnow/api.ErrReject",Rows.laid_winnow_api_ErrReject),("winnow/api.ErrConfig",Rows.laid_winnow_api_ErrConfig),("winnow/parse.rules",Rows.laid_winnow_parse_rules),("winnow/cfg.steps",Rows.laid_winnow_cfg_steps)] W/\handlesMet Tryz.prog [("errors.errorType",Rows.laid_errors_errorType)] W:=h
 have h2:=laidMet.tail (laidMet.tail h'.1)
 have h4:=laidMet.tail (laidMet.tail h2)
 have h5:=laidMet.tail h4
 obtain ⟨a,s,hv,_⟩:=laid_sentinel (g:=1) (ti:=81) (tp:=264) (te:=282) (ts:=9) h4 (by kernel_rfl) (by kernel_rfl) Tryz.underlying81 (fun u hu=>yp5 u hu) Tryz.underlying264 Tryz.underlying282 rfl rfl Tryz.underlying9 (by kernel_rfl) (by kernel_rfl)
 exact ⟨zA0 h5,zz9 (laidMet.tail h5),Lib.tabBelow_of_tabIs (Lib.tabIs_of_head (g:=5) (t:=256) (by kernel_rfl) (by kernel_rfl) Tryz.underlying256 Tryz.underlying247 (by kernel_rfl) (by kernel_rfl) h2),⟨_,_,by simpa using World.var?_cell (show Tryz.prog.globalNamed "winnow/api.ErrConfig" = some 1 by kernel_rfl) hv 0⟩,yz1 rfl h'.2⟩
end
section
open Go.RowKit Go.Deep Go.WideShapes Go.ChangeShapes
theorem ye1 {P:Program} {H:Type} {enc:TypeId×Value->H} {w:World} {t e:TypeId} (ht:P.underlying t=some (.slice e)) (hi:P.underlying e=some (.int .i64)) (hc:P.cellsOf e=1) {fuel:Nat} {c:Value} {x:DataW H×List MemPlace} (h:DataW.trod enc P w 0 (fun _=>true) true fuel t [c]=some x) :
  ∃ (l:List Int) (ao:Option Addr) (cap:Nat),c=.slice ao l.length cap/\SL w 1 c l.length (ilL l)/\∀ y∈l,(Lit.int .i64 y).wf=true:=by
 rcases open_slice ht h with ⟨h0,_⟩ | ⟨a,len,cap,m,n,D,Pl,hcs,_,hl,hm,hme,hx,hel⟩
 ·have e0:c=.slice none 0 0:=by simpa using h0
  exact ⟨[],none,0,e0,⟨rfl,fun u hu=>(by cases hu),none,0,e0,.inl rfl⟩,fun y hy=>(by cases hy)⟩
 simp only [if_true] at hme
 subst hme
 rw [hc] at hel
 have hex:∀ i,∃ y:Int,i<len->w.cells? 0 (a.add (i*1)) 1=some [.int .i64 y]/\(Lit.int .i64 y).wf=true:=by
  intro i
  by_cases hi':i<len
  ·obtain ⟨cs',h1,h2⟩:=hel i (by omega)
   obtain ⟨y,e1,_,e3⟩:=DataW.trod_int hi h2
   subst e1
   exact ⟨y,fun _=>⟨h1,e3⟩⟩
  ·exact ⟨0,fun hh=>absurd hh hi'⟩
 obtain ⟨f,hf⟩:=Classical.axiomOfChoice hex
 have hc':c=.slice (some a) len m:=by simpa using hcs
 have hlen:((List.range len).map f).length=len:=by simp
 have hwf:∀ y∈(List.range len).map f,(Lit.int .i64 y).wf=true:=fun y hy=>by
  obtain ⟨i,hi',rfl⟩:=List.mem_map.1 hy
  exact (hf i (List.mem_range.1 hi')).2
 refine ⟨(List.range len).map f,some a,m,by rw [hlen];exact hc',⟨by simp [ilL],zp3 _,some a,m,by rw [hlen];exact hc',?_⟩,hwf⟩
 rcases Nat.eq_zero_or_pos len with e0 | hpos
 ·exact .inl (by rw [hlen];exact e0)
 right
 have hcell:∀ i,i<len->w.cell? (a.add i)=some (.int .i64 (f i)):=fun i hi'=>by
  have h9:=(World.cells?_some (hf i hi').1).2.2 0 (by decide)
  rw [Nat.mul_one] at h9
  simpa [Addr.add] using h9
 obtain ⟨b,o,y⟩:=a
 have h00:=hcell 0 hpos
 have hy:y=none:=by simpa [Addr.add] using World.cell?_spot h00
 subst hy
 refine ⟨b,o,rfl,?_,fun j u hj=>?_⟩
 ·rcases Nat.lt_or_ge b w.heap.size with hh | hh
  ·exact hh
  ·rw [Go.WideShapes.add_plain] at h00
   simp [World.cell?,Array.getElem?_eq_none hh] at h00
 ·have hj':j<len:=by have:=(List.getElem?_eq_some_iff.1 hj).1;simpa [ilL] using this
  have h9:=hcell j hj'
  rw [Go.WideShapes.add_plain] at h9
  rw [h9]
  unfold ilL at hj
  simpa [hj'] using hj
theorem ccells:Tryz.prog.cellsOf 3=1/\Tryz.prog.cellsOf 2=1/\Tryz.prog.cellsOf 22=1/\Tryz.prog.cellsOf 24=9:=by
 refine ⟨?_,?_,?_,?_⟩<;>kernel_rfl
def cfN (a0 a1 a2 a3 a4 a5 a7 a8:Int):Nat->Int
 | 0=>a0
 | 1=>a1
 | 2=>a2
 | 3=>a3
 | 4=>a4
 | 5=>a5
 | 7=>a7
 | 8=>a8
 | _=>0
set_option maxRecDepth 100000 in
theorem ye2 {H:Type} {enc:TypeId×Value->H} {w:World} {r:Reach} {b0:Nat} {v:Value} {d:DataW H} {ps:List MemPlace} (hval:Value.okWide Tryz.prog w r b0 24 v) (hd:DataW.Trod enc Tryz.prog w 0 (fun _=>true) true 24 v d ps) :
  ∃ (c:Nat->Int) (ts:List Int) (tz:Option Addr) (tc:Nat),v=.agg #[.int .i64 (c 0),.int .i64 (c 1),.int .i64 (c 2),.int .i64 (c 3),.int .i64 (c 4),.int .i64 (c 5),.slice tz ts.length tc,.int .i64 (c 7),.int .i64 (c 8)]/\SL w 1 (.slice tz ts.length tc) ts.length (ilL ts):=by
 obtain ⟨cs,rfl,hcs⟩:=okWide_struct Tryz.underlying24 hval
 obtain ⟨fuel,hf⟩:=hd
 obtain ⟨xs,m,_,hxx,hl,hlen,hg⟩:=DataW.trod_struct Tryz.underlying24 hf
 obtain ⟨u3,u6,us,uc⟩:=ccells
 have hl2:cs.toList.length=9:=by rw [uc] at hcs;simpa using hcs
 have hcc:(Value.agg cs).cells.toList=cs.toList:=by simp [Value.cells]
 obtain ⟨L,hL⟩:∃ L,L=cs.toList:=⟨_,rfl⟩
 have hca:cs=L.toArray:=by rw [hL]
 rw [<-hL] at hl2 hcc
 match xs,hlen,L,hl2 with
 | [y0,y1,y2,y3,y4,y5,y6,y7,y8],_,[c0,c1,c2,c3,c4,c5,c6,c7,c8],_ =>
  have key:∀ (k:Nat) (t:TypeId) (c:Value) (y:DataW H×List MemPlace),DataW.trod enc Tryz.prog w 0 (fun _=>true) true m t (((Value.agg cs).cells.toList.drop k).take (Tryz.prog.cellsOf t))=some y->Tryz.prog.cellsOf t=1->([c0,c1,c2,c3,c4,c5,c6,c7,c8].drop k).take 1=[c]->DataW.trod enc Tryz.prog w 0 (fun _=>true) true m t [c]=some y:=fun k t c y h h1 h2=>by
   rw [hcc,h1,h2] at h
   exact h
  obtain ⟨a0,e0,_,_⟩:=DataW.trod_int Tryz.underlying3 (key 0 3 c0 y0 (hg 0 _ rfl) u3 rfl)
  obtain ⟨a1,e1,_,_⟩:=DataW.trod_int Tryz.underlying3 (key 1 3 c1 y1 (hg 1 _ rfl) u3 rfl)
  obtain ⟨a2,e2,_,_⟩:=DataW.trod_int Tryz.underlying3 (key 2 3 c2 y2 (hg 2 _ rfl) u3 rfl)
  obtain ⟨a3,e3,_,_⟩:=DataW.trod_int Tryz.underlying3 (key 3 3 c3 y3 (hg 3 _ rfl) u3 rfl)
  obtain ⟨a4,e4,_,_⟩:=DataW.trod_int Tryz.underlying3 (key 4 3 c4 y4 (hg 4 _ rfl) u3 rfl)
  obtain ⟨a5,e5,_,_⟩:=DataW.trod_int Tryz.underlying3 (key 5 3 c5 y5 (hg 5 _ rfl) u3 rfl)
  obtain ⟨ts,tz,tc,e6,h6,_⟩:=ye1 Tryz.underlying22 Tryz.underlying2 u6 (key 6 22 c6 y6 (hg 6 _ rfl) us rfl)
  obtain ⟨a7,e7,_,_⟩:=DataW.trod_int Tryz.underlying3 (key 7 3 c7 y7 (hg 7 _ rfl) u3 rfl)
  obtain ⟨a8,e8,_,_⟩:=DataW.trod_int Tryz.underlying3 (key 8 3 c8 y8 (hg 8 _ rfl) u3 rfl)
  simp only [List.cons.injEq,and_true] at e0 e1 e2 e3 e4 e5 e7 e8
  subst e0 e1 e2 e3 e4 e5 e7 e8
  subst e6
  exact ⟨cfN a0 a1 a2 a3 a4 a5 a7 a8,ts,tz,tc,by rw [hca];rfl,h6⟩
end
section
open Go.RowKit Go.Maps
theorem ye3 (s:ByteArray) (c:Nat->Int) (ts:List Int) (tz:Option Addr) (tc:Nat) (pv:Value) (picks:List Int) (w:World) (hE:PEnv w) (hts:SL w 1 (.slice tz ts.length tc) ts.length (ilL ts)) (hp:SL w 1 pv picks.length (ilL picks)) (hpw:∀ y∈picks,(Lit.int .i64 y).wf=true) :
  Calls Tryz.prog 3 #[.string s,.agg #[.int .i64 (c 0),.int .i64 (c 1),.int .i64 (c 2),.int .i64 (c 3),.int .i64 (c 4),.int .i64 (c 5),.slice tz ts.length tc,.int .i64 (c 7),.int .i64 (c 8)],pv] w fun e w'=>e=.returned (.bool true)/\Ok w w':=by
 refine yd6 s c tz ts.length tc pv picks w (fun Y hY=>(zx2 s Y).mono fun e w' h=>?_) hp hpw
 obtain ⟨ns,m,v,he,hsl,hpr,hk⟩:=PgIs.of h.1 h.2
 have hW:Ok w w':=hY.step hk
 refine ⟨v,badP ns m c ts,ptN ns,ptF ns ns.length,spR ns c,elF ns,_,he,hsl,hk,⟨fun Z hZ=>zt4 v c ts tz tc ns m Z (hE.ok (hW.step hZ)) (hpr.below hZ) (hts.below (hW.step hZ)),fun Z pv path hZ hs hl hw=>yd7 v c ts tz tc ns m pv path Z (hE.ok (hW.step hZ)) (hpr.below hZ) (hts.below (hW.step hZ)) hs (by omega) hw,fun hb Z hZ=>(zM7 _ _ _ _ _ _ ns m Z (hpr.below hZ) (zt3 hb).1).mono fun e w2 h=>h,fun Z hZ=>yd9 Z (hE.ok (hW.step hZ))⟩,fun hb=>⟨yc8 hb,(lk_ok hb).1,(lk_ok hb).2.2,by have:=(lk_ok hb).2.1;omega,rfl,(gr_ok (zt3 hb).1).els⟩⟩
end
section
open Go.ChangeShapes Go.WideShapes Go.ChangeAt Go.RowKit
open Go.ChangeMaps (open_string shut_string)
set_option maxRecDepth 100000 in
theorem zx3:laidOutB Tryz.prog=true:=by kernel_rfl
set_option maxRecDepth 100000 in
theorem zK2 (H:Type) (enc:TypeId×Value->H) (W:World) (base:Nat) (args:Array Value) (ds gs:List (DataW H)) (before:List MemPlace)
  (hval:∀ (j:Nat) t v,Tryz.f3.params[j]?=some t->args[j]?=some v->Value.okWide Tryz.prog W .any base t v)
  (hW:DataW.Whole enc Tryz.prog Tryz.f3.params.toList Rows.partPathsSpec.vars false W args.toList ds gs before) (hL:laidMetH Tryz.prog Rows.partPathsRow.laid W) :
  Calls Tryz.prog 3 args W fun e W'=>∃ v,e=.returned v/\Rows.partPathsSpec.post enc Tryz.prog Tryz.f3 false true false false W args v W':=by
 have hW':=hW
 obtain ⟨p,q,hA0,hV,rfl,hfz,hnd⟩:=hW
 have hA:DataW.TrodAll enc Tryz.prog W 0 (fun _=>true) true Tryz.f3.params.toList args.toList ds p:=hA0
 rw [Tryz.params3] at hA hval
 obtain ⟨v0,vs0,d0,ds0,p0,q0,hargs,rfl,rfl,h0,r0⟩:=trodAll_cons hA
 obtain ⟨v1,vs1,d1,ds1,p1,q1,rfl,rfl,rfl,h1,r1⟩:=trodAll_cons r0
 obtain ⟨v2,vs2,d2,ds2,p2,q2,rfl,rfl,rfl,h2,r2⟩:=trodAll_cons r1
 obtain ⟨rfl,rfl,rfl⟩:=trodAll_nil r2
 obtain rfl:args=#[v0,v1,v2]:=by cases args;simp_all
 obtain ⟨rfl,rfl⟩:=trodVars_none hV
 obtain ⟨ao,n,cp,rfl⟩:=okWide_slice Tryz.underlying25 (hval 2 25 v2 rfl rfl)
 obtain ⟨a0,rfl,rfl,rfl,w0⟩:=open_string Tryz.underlying9 (hval 0 9 v0 rfl rfl) h0
 have h1k:=h1
 have h2k:=h2
 obtain ⟨c,ts,tz,tc,rfl,hts⟩:=ye2 (hval 1 24 v1 rfl rfl) h1
 obtain ⟨f2,h2f⟩:=h2
 obtain ⟨l,ao2,cp2,e2,hl,hlw⟩:=ye1 (c:=.slice ao n cp) (x:=(d2,p2)) Tryz.underlying25 Tryz.underlying3 ccells.1 h2f
 clear hA0
 simp only [List.append_nil] at hW'
 have hlt1:∀ y∈p1,y.block<W.heap.size:=fun y hy=>hW'.lt y (by simp [hy])
 have hlt2:∀ y∈p2,y.block<W.heap.size:=fun y hy=>hW'.lt y (by simp [hy])
 refine (ye3 a0 c ts tz tc _ l W (zK1 hL) hts hl hlw).mono fun e W' ⟨he,hg⟩=>?_
 subst he
 have bel:Below W.heap.size W W':=hg
 refine ⟨_,rfl,_,_,_,[],[]++(p1++(p2++[])),[],hW',?_,?_,rfl,bel.frame _,fun h=>by cases h⟩
 ·exact trodAll_cons_mk (shut_bool Tryz.underlying4 _) trodAll_mk0
 ·exact trodAll_cons_mk (shut_string Tryz.underlying9 w0) (trodAll_cons_mk (Below.trod zx3 (by kernel_rfl) (of_decide_eq_true (by kernel_rfl)) h1k bel hlt1) (trodAll_cons_mk (Below.trod zx3 (by kernel_rfl) (of_decide_eq_true (by kernel_rfl)) h2k bel hlt2) trodAll_mk0))
set_option maxRecDepth 100000 in
theorem yp6 (os:Os) {H:Type} (enc:TypeId×Value->H):∃ places,DataW.whole enc Tryz.prog ((World.doorLaid Tryz.prog 4000 os).forCall (fun _ _=>0) ⟨#[],#[.string ⟨#[]⟩,.agg #[.int .i64 0,.int .i64 0,.int .i64 0,.int .i64 0,.int .i64 0,.int .i64 0,.slice none 0 0,.int .i64 0,.int .i64 0],.slice none 0 0],[]⟩).memory Tryz.f3.params.toList Rows.partPathsSpec.vars false (#[Value.string ⟨#[]⟩,.agg #[.int .i64 0,.int .i64 0,.int .i64 0,.int .i64 0,.int .i64 0,.int .i64 0,.slice none 0 0,.int .i64 0,.int .i64 0],.slice none 0 0]).toList 12=some ([.lit (.string []),.agg [.lit (.int .i64 0),.lit (.int .i64 0),.lit (.int .i64 0),.lit (.int .i64 0),.lit (.int .i64 0),.lit (.int .i64 0),.nil,.lit (.int .i64 0),.lit (.int .i64 0)],.nil],[],places) :=
 ⟨[],by kernel_rfl⟩
set_option maxRecDepth 100000 in
theorem ye4 (os:Os) (started:os.Started) (H:Type) (enc:TypeId×Value->H) (F:Stop.Interp) :
  ReturnsInHanded {} Tryz.checked os 3 .any ((OpenSpec.ofChange Rows.partPathsSpec).preRow enc Tryz.prog Tryz.f3 Rows.partPathsRow.domain false Rows.partPathsRow.laid) (((OpenSpec.ofChange Rows.partPathsSpec).at F).post enc Tryz.prog Tryz.f3 false true false false):=by
 obtain ⟨places,hx⟩:=yp6 os enc
 refine returnsInHanded_of_row (C:=Tryz.checked) (s:=OpenSpec.ofChange Rows.partPathsSpec) own started (by kernel_rfl) Tryz.func3
  (witness_row_atRef (enc:=enc) (C:=Tryz.checked) false (World.doorLaid Tryz.prog 4000 os) #[.string ⟨#[]⟩,.agg #[.int .i64 0,.int .i64 0,.int .i64 0,.int .i64 0,.int .i64 0,.int .i64 0,.slice none 0 0,.int .i64 0,.int .i64 0],.slice none 0 0] rfl (by kernel_rfl) (by kernel_rfl) (by kernel_rfl)
   (OpenSpec.preRow_of_cond 12 hx (by kernel_rfl) (fun k hk=>by cases hk) (by kernel_rfl) (yp3 os _))) ?_
 intro W base args ds gs before hval hW _ _ hk hL _ _
 exact zK2 H enc W base args ds gs before hval hW hL
set_option maxRecDepth 100000 in
theorem yz2:Rows.PartPathsSaid :=
 OpenClaim.holds_of_cond 3 Tryz.f3 rfl rfl rfl rfl rfl rfl rfl ⟨rfl,rfl,rfl,rfl,rfl⟩ rfl rfl rfl rfl rfl (by kernel_rfl) Tryz.func3 (by kernel_rfl)
  (of_decide_eq_true (by kernel_rfl)) (by unfold Func.isWrapper;first | (rw [if_pos (by decide +kernel)];kernel_rfl) | (rw [if_neg (by decide +kernel)];exact ⟨rfl,rfl⟩))
  (fun os started H enc _ F=>by rw [OpenClaim.pre_eq_preRow];exact ye4 os started H enc F)
set_option maxRecDepth 100000 in
theorem yp7 (f:FuncId) (fn:Func) (hf:Tryz.pinned.checked.prog.funcNamed "winnow/winnowlaw20.PartPaths" = some f) (hfn:Tryz.pinned.checked.prog.funcs[f]?=some fn) :
  true=Tryz.pinned.checked.prog.looks []/\∀ (j:Nat) t,fn.params[j]?=some t->Tryz.pinned.checked.prog.wantsStandIn t=false:=by
 obtain rfl:f=3:=Option.some.inj ((show Tryz.prog.funcNamed "winnow/winnowlaw20.PartPaths" = some 3 by kernel_rfl).symm.trans hf) |>.symm
 obtain rfl:fn=Tryz.f3:=(Option.some.inj (Tryz.func3.symm.trans hfn)).symm
 refine ⟨by kernel_rfl,fun j t ht=>?_⟩
 rw [Tryz.params3] at ht
 have hm:t∈[9,24,25]:=by simpa using Array.mem_of_getElem? ht
 have hall:([9,24,25].all fun u => !Tryz.prog.wantsStandIn u)=true:=by kernel_rfl
 exact (show Tryz.prog.wantsStandIn t=false by simpa using List.all_eq_true.1 hall t hm)
set_option maxRecDepth 100000 in
theorem partPaths_card:Rows.PartPathsCardSaid :=
 Claim7.holds_tied_plain_at .later [] _ _ _ _ yz2 (fun _ h=>by cases h) (by kernel_rfl) (fun _ h=>by cases h) partPaths_row_tie rfl ⟨rfl,rfl⟩ (by kernel_rfl) rfl yp7 (by kernel_rfl)
end
end Go.Proofs.YtenoopfeplalnaaGreatDoor
