import Derived.Test.YtihdgmiicfbbkaaGreatDoorKJa
set_option maxHeartbeats 8000000
set_option linter.all false
set_option maxRecDepth 100000
namespace Go.Proofs.YtihdgmiicfbbkaaGreatDoor
section
open Go.RowKit
def LPr (w:World) (l:List UInt8) (e:Ending) (w':World):Prop :=
 (∃ (ns:List Nd) (u:Nat->Value),TxtP l ns/\e=.returned (.agg #[u 0,u 1,u 2,u 3,u 4,u 5])/\PrIs w' w.heap.size u ns (programR ns).2.2/\∀ n∈ns,n.Fit)
 \/ (TxtN l/\e=.returned (.agg #[sZ,sZ,sZ,sZ,sZ,sZ]))
theorem zx9 (s:ByteArray) (w:World) :
  Calls Tryz.prog 4 #[.string s,nI 0] w fun e w'=>LPr w s.toList e w'/\Ok w w':=by
 go_enter Tryz.func4,Tryz.ntmps4;go_wp2_with fail;refine (yt7 s _).mono ?_;rintro e w1 ⟨ht,hok⟩;have HX:Hi (Six w1 w.heap.size (sZ) (sZ) (sZ) (sZ) (sZ) (sZ)):=(Six.new w _ _ _ _ _ _).below hok;have HK:Hi (Ok w w1):=((Ok.refl w).alloc _).step hok;obtain ⟨z1,c0,c1,c2,c3,c4,c5⟩:=HX.o.pc;have wf:=HX.o.warm
 have hT:(∃ (ns:List Nd) (u:Nat->Value),TxtP s.toList ns/\e=.returned (.tuple #[.agg #[u 0,u 1,u 2,u 3,u 4,u 5],nI 0,nI 0])/\PrIs w1 (w.heap.size+1) u ns (programR ns).2.2/\∀ n∈ns,n.Fit)\/(TxtN s.toList/\∃ er at0:Int,er≠0/\e=.returned (.tuple #[.agg #[sZ,sZ,sZ,sZ,sZ,sZ],nI er,nI at0])):=by
  unfold TextIs at ht
  cases hl:lexS s.toList with
  | inl p =>
   rw [hl] at ht;obtain ⟨er,at0⟩:=p;exact .inr ⟨.inl ⟨_,hl⟩,_,_,by have:=ht.1;omega,ht.2⟩
  | inr ts =>
   rw [hl] at ht;obtain ⟨P,h1,h2,h3⟩:=ht;subst h1;rcases h3 with ⟨k1,k2,u,k3,k4,k5⟩ | ⟨k1,er,at0,k2,k3⟩
   ·exact .inl ⟨_,u,⟨P,hl,h2,k1,rfl,k2⟩,k3,by simpa using k4,k5.1⟩
   exact .inr ⟨.inr ⟨P,hl,h2,k1⟩,er,at0,k2,k3⟩
 clear ht hok;rcases hT with ⟨ns,u,hP,rfl,hu,hf⟩ | ⟨hn,er,at0,he,rfl⟩
 ·have HP:Hi (TxtP s.toList ns/\PrIs w1 (w.heap.size+1) u ns (programR ns).2.2/\∀ n∈ns,n.Fit):=⟨hP,hu,hf⟩
  clear hP hu hf;obtain ⟨o0,p0,e0⟩:=za0 (HP.o.2.1 0 dC);obtain ⟨o1,p1,e1⟩:=za0 (HP.o.2.1 1 dC);obtain ⟨o2,p2,e2⟩:=za0 (HP.o.2.1 2 dC);obtain ⟨o3,p3,e3⟩:=za0 (HP.o.2.1 3 dC);obtain ⟨o4,p4,e4⟩:=za0 (HP.o.2.1 4 dC);obtain ⟨o5,p5,e5⟩:=za0 (HP.o.2.1 5 dC);have HEE:Hi (u 0=_/\u 1=_/\u 2=_/\u 3=_/\u 4=_/\u 5=_):=⟨e0,e1,e2,e3,e4,e5⟩;rw [e0,e1,e2,e3,e4,e5];clear e0 e1 e2 e3 e4 e5;go_wp2_with fail
  try simp only [Exit.inBlock,Exit.then]
  refine bodyPost_ret (results_cell_row rfl _ _ w.heap.size 30 #[_,_,_,_,_,_] (0,0) _ rfl (heap_past _ _ _ (za2 (zc9 HX.o.heap _ _ _ _ _ _)) (zc9 HX.o.heap _ _ _ _ _ _)) Tryz.underlying30 rfl Tryz.info30) rfl ?_;refine ⟨.inl ⟨ns,u,HP.o.1,?_,?_,HP.o.2.2⟩,(show Ok w _ from zc8 HK.o (nR_ _) _ _ _ _ _ _).alloc _⟩
  ·obtain ⟨e0,e1,e2,e3,e4,e5⟩:=HEE.o
   rw [e0,e1,e2,e3,e4,e5]
  intro k hk;exact za7 (World.ownsRow.alloc (zI9 (HP.o.2.1 k hk) oM _ _ _ _ _ _) _) oM
 have HC:Hi (TxtN s.toList):=hn;clear hn he;go_wp2_with fail
 try simp only [Exit.inBlock,Exit.then]
 refine bodyPost_ret (results_cell_row rfl _ _ w.heap.size 30 #[_,_,_,_,_,_] (0,0) _ rfl (heap_past _ _ _ (za2 (zc9 HX.o.heap _ _ _ _ _ _)) (zc9 HX.o.heap _ _ _ _ _ _)) Tryz.underlying30 rfl Tryz.info30) rfl ?_;exact ⟨.inr ⟨HC.o,rfl⟩,(show Ok w _ from zc8 HK.o (nR_ _) _ _ _ _ _ _).alloc _⟩
end
section
open Go.RowKit Go.Maps
theorem lk_ok {ns:List Nd} {l:Ls} {c:Nat->Int} {ts:List Int} (h:badP ns l c ts=0):LkB (spR ns c).2.2/\(spR ns c).2.1.length<=1806/\0<(spR ns c).2.1.length:=by
 obtain ⟨hg,hr⟩:=zm1 h;have hc:=zp8 hr;have hG:=gr_ok hg;have hF:=ye8 h;obtain ⟨R,hR⟩:=qq (spR ns c);rw [<-hR] at hF ⊢
 have hv:R.2.1.length<=1806:=by have h1:=hF.vi.len (N:=ptN ns) hG.wit;have h2:(plOf (c 2).toNat (c 0) (c 1) (elF ns) R.1).cap=(c 2).toNat:=rfl;rw [h2] at h1;have h3:=Nat.mul_le_mul hG.pts (show (c 2).toNat<=6 by omega);omega
 have he:(plOf (c 2).toNat (c 0) (c 1) (elF ns) R.1).es=elF ns:=rfl;refine ⟨⟨?_,fun x hx=>?_⟩,hv,?_⟩
 ·obtain ⟨LL,k1,k2,k3⟩:=hF.rows
  rw [k2];refine Nat.le_trans (zt5 (M:=600) LL fun row hrow=>?_) (by rw [k1];omega);obtain ⟨i,hi⟩:=List.mem_iff_getElem?.1 hrow;obtain ⟨v,_,h2⟩:=k3 i row hi;rw [h2.1];exact Nat.le_trans (zr0 _ _) (by rw [he];exact hG.els)
 ·obtain ⟨v,e,a1,a2,a3,a4⟩:=hF.link hx
  have b1:=(List.getElem?_eq_some_iff.1 a1).1;have b2:=(List.getElem?_eq_some_iff.1 a2).1;have b3:=(List.getElem?_eq_some_iff.1 a4).1;rw [he] at b2;have:=hG.els;omega
 exact (List.getElem?_eq_some_iff.1 hF.first).1
theorem yB1 (v:Nat->Value) (c:Nat->Int) (ts:List Int) (tz:Option Addr) (tc:Nat) (ns:List Nd) (l:Ls) (pv:Value) (path:List Int) (w:World) (hE:PEnv w) (h:ProgIs w (v 0) (v 1) (v 2) (v 3) (v 4) (v 5) ns l) (hts:SL w 1 (.slice tz ts.length tc) ts.length (ilL ts)) (hp:SL w 1 pv path.length (ilL path)) (hpl:path.length<=4000000000000000000) (hpw:∀ y∈path,(Lit.int .i64 y).wf=true) :
  Calls Tryz.prog 6 #[.agg #[v 0,v 1,v 2,v 3,v 4,v 5],.agg #[nI (c 0),nI (c 1),nI (c 2),nI (c 3),nI (c 4),nI (c 5),.slice tz ts.length tc,nI (c 7),nI (c 8)],pv] w fun e w'=>e=.returned (.tuple #[nI (flV (badP ns l c ts) (spR ns c).2.2 path).1,nI (flV (badP ns l c ts) (spR ns c).2.2 path).2])/\Ok w w':=by
 have hS:∀ Y,Ok w Y->Calls Tryz.prog 12 #[.agg #[v 0,v 1,v 2,v 3,v 4,v 5],.agg #[nI (c 0),nI (c 1),nI (c 2),nI (c 3),nI (c 4),nI (c 5),.slice tz ts.length tc,nI (c 7),nI (c 8)]] Y fun e w'=>SpG Y (badP ns l c ts) (ptN ns) (spR ns c) e w':=fun Y hY=>zu0 v c ts tz tc ns l Y (hE.ok hY) (h.below hY) (hts.below hY);by_cases hb:badP ns l c ts=0
 ·rw [hb] at hS ⊢
  exact ye6 v c tz ts.length tc pv path (ptN ns) (spR ns c) _ w (ye8 hb) (lk_ok hb).1 hp hpl hpw hS
 refine (zV3 v c tz ts.length tc pv (badP ns l c ts) (ptN ns) (spR ns c) w hb hS).mono ?_;rintro e w' ⟨rfl,hk⟩;refine ⟨?_,hk⟩;unfold flV;rw [if_neg hb]
def PgIs (w:World) (e:Ending) (w':World) (ns:List Nd) (l:Ls) (v:Nat->Value):Prop:=e=.returned (.agg #[v 0,v 1,v 2,v 3,v 4,v 5])/\(∀ i,i<6->∃ ao n c,v i=.slice ao n c)/\ProgIs w' (v 0) (v 1) (v 2) (v 3) (v 4) (v 5) ns l/\Ok w w'
theorem PgIs.of {w:World} {l:List UInt8} {e:Ending} {w':World} (h:LPr w l e w') (hk:Ok w w'):∃ ns m v,PgIs w e w' ns m v:=by
 rcases h with ⟨ns,u,hP,he,hu,hf⟩ | ⟨hn,he⟩
 ·exact ⟨ns,_,u,he,fun i hi=>by obtain ⟨o,c,e⟩:=za0 (hu i hi);exact ⟨_,_,_,e⟩,hu.prog fun n hn=>yj1 (hf n hn),hk⟩
 exact ⟨[],ls0,fun _=>sZ,he,fun i hi=>⟨_,_,_,rfl⟩,⟨⟨fun n hn=>(by cases hn),none,0,rfl,zL_ _,by decide,.inl rfl⟩,⟨⟨by decide,none,0,rfl,.inl rfl⟩,⟨by decide,none,0,rfl,.inl rfl⟩,⟨by decide,none,0,rfl,.inl rfl⟩,⟨by decide,none,0,rfl,.inl rfl⟩,⟨by decide,none,0,rfl,.inl rfl⟩⟩⟩,hk⟩
end
section
open Go.RowKit Go.Maps
def txt20:List UInt8:=[118,97,114,32,120,59,32,105,110,112,117,116,32,120,59,32,105,102,32,120,32,60,32,48,32,123,32,120,32,58,61,32,49,59,32,125,32,101,108,115,101,32,123,32,115,107,105,112,59,32,125,32,119,104,105,108,101,32,120,32,60,32,57,32,123,32,120,32,58,61,32,120,32,43,32,49,59,32,125]
def ts20:List Tk:=match lexS txt20 with | .inr t=>t | .inl _=>[]
theorem zR7:lexS txt20=.inr ts20:=by kernel_rfl
def ns20:List Nd:=(parE (⟨.nilFunc,0,[],ts20,79⟩:RP)).2.2
theorem ys1 (tv:Value) (B:Nat) (xs:List Value):parE (⟨tv,B,xs,ts20,79⟩:RP)=(0,0,ns20):=by kernel_rfl
theorem zH4:(programR ns20).1=0:=by kernel_rfl
theorem yh5 {P:RP} (h1:lexS txt20=.inr P.ts) (h2:P.en=txt20.length):parE P=(0,0,ns20):=by
 obtain ⟨tv,B,xs,ts,en⟩:=P;rw [zR7] at h1
 injection h1 with h1
 subst h1;have e:en=79:=h2;subst e;exact ys1 tv B xs
theorem ys2 {ns:List Nd} (h:TxtP txt20 ns):ns=ns20:=by obtain ⟨P,h1,h2,_,h3,_⟩:=h;rw [yh5 h1 h2] at h3;exact h3.symm
theorem ys3:¬TxtN txt20:=by
 rintro (⟨p,h⟩ | ⟨P,h1,h2,h3⟩)
 ·rw [zR7] at h;cases h
 rw [yh5 h1 h2] at h3;exact h3 rfl zH4
def cf1:Nat->Int
 | 0=>1
 | 2=>6
 | _=>0
def cf2:Nat->Int
 | 2=>1
 | _=>0
theorem yB2:refuse cf1 []=0:=by kernel_rfl
theorem yB3:refuse cf2 []=0:=by kernel_rfl
theorem yE0:(decide (8<=(spR ns20 cf1).2.1.length)&&(decide ((mgL (ptN ns20) (spR ns20 cf1).1).length=0)&&decide ((spR ns20 cf1).2.1.length<=(spR ns20 cf1).2.2.length)))=true:=by kernel_rfl
theorem yE1:goP (spR ns20 cf2).2.2 0 [0]=some 1:=by kernel_rfl
theorem yh6 (w:World) (hE:PEnv w) :
  Calls Tryz.prog 8 #[] w fun e w'=>e=.returned (.bool true)/\Ok w w':=by
 have HE:=hid hE;clear hE;go_enter Tryz.func8,Tryz.ntmps8;go_wp2_with fail;refine (zx9 _ w).mono ?_;rintro e w1 ⟨ht,hk1⟩;have htx:∀ s:ByteArray,s.data.toList=txt20->s.toList=txt20:=fun s h=>by rw [ByteArray.toList_eq];exact h
 rw [htx _ rfl] at ht;rcases ht with ⟨ns,v,h1,rfl,h2,h3⟩ | ⟨h1,_⟩;rotate_left
 ·exact absurd h1 ys3
 have hns:=ys2 h1;subst hns;obtain ⟨m,hm⟩:=qq ((programR ns20).2.2);rw [<-hm] at h2;have HK1:Hi (Ok w w1):=hk1;have hok:∀ n∈ns20,n.Ok:=fun n hn=>yj1 (h3 n hn);have hgd:goodD ns20 m=true:=by rw [hm];exact yq0 hok zH4
 have hb1:badP ns20 m cf1 []=0:=by unfold badP;rw [if_pos hgd];exact yB2
 have hb2:badP ns20 m cf2 []=0:=by unfold badP;rw [if_pos hgd];exact yB3
 have hpr:ProgIs w1 (v 0) (v 1) (v 2) (v 3) (v 4) (v 5) ns20 m:=h2.prog hok;have hnl:∀ Y:World,SL Y 1 (.slice none ([]:List Int).length 0) ([]:List Int).length (ilL []):=fun Y=>⟨rfl,fun u hu=>(by cases hu),none,0,rfl,.inl rfl⟩
 have hsp:∀ Y,Ok w1 Y->Calls Tryz.prog 12 #[.agg #[v 0,v 1,v 2,v 3,v 4,v 5],.agg #[nI 1,nI 0,nI 6,nI 0,nI 0,nI 0,sZ,nI 0,nI 0]] Y fun e w'=>PsIs Y (ptN ns20) (spR ns20 cf1) e w':=fun Y hY =>
  (zu0 v cf1 [] none 0 ns20 m Y (HE.o.ok (HK1.o.step hY)) (hpr.below hY) (hnl Y)).mono fun e w' h=>h.elim (fun h=>absurd hb1 h.1) (fun h=>h.2)
 have hfo:∀ Y pv,Ok w1 Y->SL Y 1 pv 1 (ilL [0])->Calls Tryz.prog 6 #[.agg #[v 0,v 1,v 2,v 3,v 4,v 5],.agg #[nI 0,nI 0,nI 1,nI 0,nI 0,nI 0,sZ,nI 0,nI 0],pv] Y fun e w'=>e=.returned (.tuple #[nI 1,nI 0])/\Ok Y w':=fun Y pv hY hs=>by
  have h:=yB1 v cf2 [] none 0 ns20 m pv [0] Y (HE.o.ok (HK1.o.step hY)) (hpr.below hY) (hnl Y) hs (by decide) (fun y hy=>by rw [List.mem_singleton.1 hy];rfl);have hf:flV (badP ns20 m cf2 []) (spR ns20 cf2).2.2 [0]=(1,0):=by unfold flV;rw [if_pos hb2,yE1];rfl
  rw [hf] at h;exact h
 obtain ⟨o0,p0,e0⟩:=za0 (h2 0 dC);obtain ⟨o1,p1,e1⟩:=za0 (h2 1 dC);obtain ⟨o2,p2,e2⟩:=za0 (h2 2 dC);obtain ⟨o3,p3,e3⟩:=za0 (h2 3 dC);obtain ⟨o4,p4,e4⟩:=za0 (h2 4 dC);obtain ⟨o5,p5,e5⟩:=za0 (h2 5 dC);rw [e0,e1,e2,e3,e4,e5] at hsp hfo;rw [e0,e1,e2,e3,e4,e5];obtain ⟨n0,hn0⟩:=qq (nOf ns20.length m 0);obtain ⟨n1,hn1⟩:=qq (nOf ns20.length m 1);obtain ⟨n2,hn2⟩:=qq (nOf ns20.length m 2);obtain ⟨n3,hn3⟩:=qq (nOf ns20.length m 3);obtain ⟨n4,hn4⟩:=qq (nOf ns20.length m 4);obtain ⟨n5,hn5⟩:=qq (nOf ns20.length m 5);rw [<-hn0,<-hn1,<-hn2,<-hn3,<-hn4,<-hn5] at hsp hfo ⊢;have HSP:=hid hsp;have HFO:=hid hfo;clear hk1 h1 h2 h3 hm hok hgd hb1 hb2 hpr hnl hsp hfo e0 e1 e2 e3 e4 e5 hn0 hn1 hn2 hn3 hn4 hn5 htx;go_wp2_with fail;obtain ⟨W,hW⟩:=qq (w1.alloc (Obj.cells #[.slice o0 n0 p0,.slice o1 n1 p1,.slice o2 n2 p2,.slice o3 n3 p3,.slice o4 n4 p4,.slice o5 n5 p5] 30));obtain ⟨gP,hgP⟩:=qq (w1.heap.size);rw [<-hW,<-hgP];have HKW:Hi (Ok w1 W):=by rw [hW];exact (Ok.refl _).alloc _
 have HPW:Hi (W.heap[gP]?=some (.cells #[.slice o0 n0 p0,.slice o1 n1 p1,.slice o2 n2 p2,.slice o3 n3 p3,.slice o4 n4 p4,.slice o5 n5 p5] 30 (0,0))):=by rw [hW,hgP];exact za3 _ _
 clear hW hgP;refine (HSP.o W HKW.o).mono ?_;rintro e w2 ⟨vv,lv,mv,rfl,⟨tl,_,hvv,_⟩,hlv,hmv,hk2⟩;have HK2:Hi (Ok W w2):=hk2;obtain ⟨vo,vc,rfl⟩:=za0 hvv;obtain ⟨lo,lc,rfl⟩:=za0 hlv;obtain ⟨mo,mc,rfl⟩:=za0 hmv;obtain ⟨vn,hvn⟩:=qq ((spR ns20 cf1).2.1.length);obtain ⟨ln,hln⟩:=qq ((spR ns20 cf1).2.2.length);obtain ⟨mn,hmn⟩:=qq ((mgL (ptN ns20) (spR ns20 cf1).1).length);have hfx:=yE0;rw [<-hvn,<-hln,<-hmn] at hfx ⊢;simp only [Bool.and_eq_true,decide_eq_true_eq] at hfx;obtain ⟨hx1,hx2,hx3⟩:=hfx;have hd1:decide ((vn:Int)<8)=false:=dF_ oM;have hd2:((mn:Int) != 0)=false:=by rw [hx2];rfl
 have hd3:decide ((ln:Int)<(vn:Int))=false:=dF_ oM;have hi1:¬(vn:Int)<8:=oM;have hi3:¬(ln:Int)<(vn:Int):=oM;have hb2:((mn:Int)==0)=true:=by rw [hx2];rfl
 clear hvv hlv hmv hk2 hvn hln hmn hx1 hx2 hx3;obtain ⟨q0,q1,q2,q3,q4,q5,lgq⟩:=row6 (Ok.row' HK2.o HPW.o);have hsl:=SL.one (s:=1) (w2.alloc (Obj.cells #[.slice vo vn vc,.slice lo ln lc,.slice mo mn mc] 43)) 3 [nI 0] rfl (by simp [Value.oneCell']);rw [show (w2.alloc (Obj.cells #[.slice vo vn vc,.slice lo ln lc,.slice mo mn mc] 43)).heap.size=w2.heap.size+1 from by simp] at hsl;have HSL:Hi (SL ((w2.alloc (Obj.cells #[.slice vo vn vc,.slice lo ln lc,.slice mo mn mc] 43)).alloc (Obj.cells #[nI 0] 3)) 1 (.slice (some ⟨w2.heap.size+1,0,none⟩) 1 1) 1 (ilL [0])):=hsl;clear hsl;go_wp2_with fail;refine (HFO.o _ _ (((HKW.o.step HK2.o).alloc _).alloc _) HSL.o).mono ?_;rintro e w3 ⟨rfl,hk3⟩;have HK3:Hi (Ok w w3):=HK1.o.step ((((HKW.o.step HK2.o).alloc _).alloc _).step hk3);clear hk3;go_wp2_with fail;go_ret;exact ⟨rfl,HK3.o⟩
end
end Go.Proofs.YtihdgmiicfbbkaaGreatDoor
