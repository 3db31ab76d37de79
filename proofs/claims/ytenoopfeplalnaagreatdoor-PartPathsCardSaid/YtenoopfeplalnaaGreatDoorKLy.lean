import Derived.Test.YtenoopfeplalnaaGreatDoorKLv
set_option maxHeartbeats 8000000
set_option linter.all false
namespace Go.Proofs.YtenoopfeplalnaaGreatDoor
section
open Go.RowKit
theorem zF7 {S S':List Nd->Nat->Int->Prop} {P:RP} {a a2 a3 a4:Nat} {bad bad2 bad3 bad4:Int} {ns ms:List Nd} {v u:Value} (h:Got S P a bad ns a2 bad2) (h':Got S' P a3 bad3 ms a4 bad4):∀ x∈held [(v,ns),(u,ms)],x.Fit:=by
 intro x hx
 rw [held2,List.mem_append,List.mem_map,List.mem_map] at hx
 rcases hx with ⟨y,hy,rfl⟩ | ⟨y,hy,rfl⟩
 ·exact zf1 (h.fit y hy)
 ·exact zf1 (h'.fit y hy)
theorem held3 (v u t:Value) (ns ms ks:List Nd):held [(v,ns),(u,ms),(t,ks)]=ns.map deep++(ms.map deep++ks.map deep):=by simp [held]
theorem yg0 {S S' S'':List Nd->Nat->Int->Prop} {P:RP} {a a2 a3 a4 a5 a6:Nat} {bad bad2 bad3 bad4 bad5 bad6:Int} {ns ms ks:List Nd} {v u t:Value} (h:Got S P a bad ns a2 bad2) (h':Got S' P a3 bad3 ms a4 bad4) (h'':Got S'' P a5 bad5 ks a6 bad6):∀ x∈held [(v,ns),(u,ms),(t,ks)],x.Fit:=by
 intro x hx
 rw [held3,List.mem_append,List.mem_append,List.mem_map,List.mem_map,List.mem_map] at hx
 rcases hx with ⟨y,hy,rfl⟩ | ⟨y,hy,rfl⟩ | ⟨y,hy,rfl⟩
 ·exact zf1 (h.fit y hy)
 ·exact zf1 (h'.fit y hy)
 ·exact zf1 (h''.fit y hy)
theorem yq7 {w:World} {g:Nat} {v u t:Value} {ns ms ks:List Nd} (h:w.heap[g]?=some (.cells #[v,u,t] 26 (0,0))) (hn:NL w 0 v ns) (hm:NL w 0 u ms) (hk:NL w 0 t ks):HD w (.slice (some ⟨g,0,none⟩) 3 3) [(v,ns),(u,ms),(t,ks)] :=
 ⟨⟨rfl,.inr ⟨g,3,_,rfl,Nat.zero_le _,h,Nat.le_refl _,by decide,rfl,rfl⟩⟩,fun p hp=>by
  rw [List.mem_cons,List.mem_cons,List.mem_singleton] at hp
  rcases hp with rfl | rfl | rfl
  ·exact hn
  ·exact hm
  ·exact hk⟩
theorem Acc.on {P:RP} {a n ac e:Nat} {badc:Int} (h:Acc P a n ac badc e):Acc P a n (ac+1) badc e:=by
 have h1:=h.le
 have h2:=h.len
 refine ⟨by omega,?_⟩
 split at h2<;>(split<;>omega)
theorem NL.up {rb:Nat} {w w1 w2:World} {v:Value} {ns:List Nd} (h:NL w1 w.heap.size v ns) (hf:Fr rb w1 w2) (hlt:rb<w.heap.size):NL w2 w.heap.size v ns:=NL.fr h hf (fun b hb=>by have h1:=(h.lt b hb).1;omega)
set_option maxRecDepth 100000 in
theorem zU1 (P:RP) (rb:Nat) (w:World) (a:Nat) (bad:Int) (m:Nat) (hBl:∀ k,k<m->BlockOK P rb k) (hm:(P.ts.length-a)*10+2<=m) (hG:GT P) (h:RI P rb w a bad) (hi2:isS P a bad [105,110,112,117,116]=false) (hi3:isS P a bad [97,115,115,101,114,116]=false) (hi4:isS P a bad [115,107,105,112]=false) (hi5:isS P a bad [119,104,105,108,101]=true):Calls Tryz.prog 32 #[.pointer (some ⟨rb,0,none⟩)] w (EPs (StS P a bad) P rb w a bad):=by
 have H:=hid h
 have HG:=hid hG
 have HBL:=hid hBl
 have HM:=hid hm
 clear hBl hm
 have HI_2:Hid _:=hi2
 have HI_3:Hid _:=hi3
 have HI_4:Hid _:=hi4
 have HI_5:Hid _:=hi5
 have HB0:Hid (bad<0):=(zb9 hi5).1
 have ha:a<P.ts.length:=(zb9 hi5).2
 clear hi2 hi3 hi4 hi5
 have haw:IntKind.i64.wrap ((a:Int)+1)=((a+1:Nat):Int):=zb6 (by have:=H.out.lim;omega)
 clear h hG
 go_enter Tryz.func32,Tryz.ntmps32
 go_wp2_with (first
  | (go_at_call 55;refine (zb8 P rb _ a bad H.out).mono ?_;rintro e w1 ⟨rfl,hok⟩;have HR1:Hid (RI P rb w1 a bad):=H.out.ok hok;have HK1:Hid (Ok w w1):=hok;clear hok)
  | (go_at_call_of 30 ((⟨#[105,110,112,117,116]⟩:ByteArray));refine (zb1 P rb _ a bad _ HR1.out).mono ?_;rintro e w2 ⟨rfl,hok⟩;rw [show isS P a bad (⟨#[105,110,112,117,116]⟩:ByteArray).toList=false by (rw [ByteArray.toList_eq];exact HI_2.out)];have HR2:Hid (RI P rb w2 a bad):=HR1.out.ok hok;have HK2:Hid (Ok w w2):=HK1.out.step hok;clear hok)
  | (go_at_call_of 30 ((⟨#[97,115,115,101,114,116]⟩:ByteArray));refine (zb1 P rb _ a bad _ HR2.out).mono ?_;rintro e w3 ⟨rfl,hok⟩;rw [show isS P a bad (⟨#[97,115,115,101,114,116]⟩:ByteArray).toList=false by (rw [ByteArray.toList_eq];exact HI_3.out)];have HR3:Hid (RI P rb w3 a bad):=HR2.out.ok hok;have HK3:Hid (Ok w w3):=HK2.out.step hok;clear hok)
  | (go_at_call_of 30 ((⟨#[115,107,105,112]⟩:ByteArray));refine (zb1 P rb _ a bad _ HR3.out).mono ?_;rintro e w4 ⟨rfl,hok⟩;rw [show isS P a bad (⟨#[115,107,105,112]⟩:ByteArray).toList=false by (rw [ByteArray.toList_eq];exact HI_4.out)];have HR4:Hid (RI P rb w4 a bad):=HR3.out.ok hok;have HK4:Hid (Ok w w4):=HK3.out.step hok;clear hok)
  | (go_at_call_of 30 ((⟨#[119,104,105,108,101]⟩:ByteArray));refine (zb1 P rb _ a bad _ HR4.out).mono ?_;rintro e w5 ⟨rfl,hok⟩;rw [show isS P a bad (⟨#[119,104,105,108,101]⟩:ByteArray).toList=true by (rw [ByteArray.toList_eq];exact HI_5.out)];have HR5:Hid (RI P rb w5 a bad):=HR4.out.ok hok;have HK5:Hid (Ok w w5):=HK4.out.step hok;obtain ⟨f0,f1,f2,f3,z0,z1,z2,z3⟩:=za7 HR5.out.row;have hlt:=HR5.out.lt;clear hok)
  | (go_at_call 60;refine (zk3 P rb HG.out _ (a+1) bad 0 (by decide) (HR5.out.setAt (a+1) ha)).mono ?_;rintro e w10 ⟨v3,ms,a6,b6,rfl,hnl,hri,hfr,hgot,h0⟩;obtain ⟨bo,cq,rfl⟩:=za0 hnl;have HQ:Hid (NL w10 w.heap.size (.slice bo ms.length cq) ms/\Got (ExS P 0 (a+1) bad) P (a+1) bad ms a6 b6/\ms.length<=65544):=⟨za8 hnl (by have:=HK5.out.le;simpa using this),hgot,hgot.len' HG.out hri.le⟩;have HR6:Hid (RI P rb w10 a6 b6/\Fr rb w w10/\Acc P a (0+ms.length) a6 b6 0):=⟨hri,((Fr.of HK5.out).set 1 _).trans hfr,(Acc.start P a bad).expr hgot h0⟩;clear hnl hri hfr hgot h0 f0 f1 f2 f3 z0 z1 z2 z3 hlt)
  | (go_at_call 61;refine (HBL.out ((P.ts.length-a6)*10+5) (by have:=HM.out;have:=HR6.out.2.2.le;omega) _ a6 b6 HR6.out.1 (Nat.le_refl _)).mono ?_;rintro e w11 ⟨v5,ks,a7,b7,rfl,hnl,hri,hfr,hgot⟩;obtain ⟨ko,kq,rfl⟩:=za0 hnl;have HS:Hid (NL w11 w.heap.size (.slice ko ks.length kq) ks/\Got (BkS P a6 b6) P a6 b6 ks a7 b7/\ks.length<=65544/\NL w11 w.heap.size (.slice bo ms.length cq) ms):=⟨za8 hnl HR6.out.2.1.le,hgot,hgot.len' HG.out hri.le,NL.up HQ.out.1 hfr H.out.lt⟩;have HR7:Hid (RI P rb w11 a7 b7/\Fr rb w w11/\Acc P a (0+ms.length+ks.length) a7 b7 1):=⟨hri,HR6.out.2.1.trans hfr,HR6.out.2.2.block hgot⟩;clear hnl hri hfr hgot)
  | (go_at_call 58;refine (zc4 _ ⟨0,8,⟨#[]⟩,0,0,(plS P a:Nat)⟩ _ [(.slice bo ms.length cq,ms),(.slice ko ks.length kq,ks)] (zF5 (za4 _ _) (za1 HS.out.2.2.2.base ((Ok.refl w11).alloc _)) (za1 HS.out.1.base ((Ok.refl w11).alloc _))) (by have:=HQ.out.2.2;have:=HS.out.2.2.1;rw [held2,List.length_append,List.length_map,List.length_map];omega) (by simp)).mono ?_;rintro e w21 ⟨v4,rfl,hn4,hok⟩;have HF:Hid (EPs (StS P a bad) P rb w a bad (.returned v4) w21):=zg4 HR7.out.2.1 HR7.out.1 HB0.out HR7.out.2.2 (by decide) (fit0 _ _ _) (by rw [held2,List.length_append,List.length_map,List.length_map,Nat.zero_add]) (zF7 HQ.out.2.1 HS.out.2.1) hn4 (by have:=(HR7.out.2.1).le;simp;omega) (((Ok.refl w11).alloc _).step hok) (StS.while ha HI_2.out HI_3.out HI_4.out HI_5.out HQ.out.2.1.sem HQ.out.2.1.le HS.out.2.1.sem);clear hn4 hok)
  | fail)
 go_ret
 exact HF.out
set_option maxRecDepth 100000 in
theorem yz6 (P:RP) (rb:Nat) (w:World) (a:Nat) (bad:Int) (m:Nat) (hBl:∀ k,k<m->BlockOK P rb k) (hm:(P.ts.length-a)*10+2<=m) (hG:GT P) (h:RI P rb w a bad) (hi2:isS P a bad [105,110,112,117,116]=false) (hi3:isS P a bad [97,115,115,101,114,116]=false) (hi4:isS P a bad [115,107,105,112]=false) (hi5:isS P a bad [119,104,105,108,101]=false) (hi6:isS P a bad [105,102]=true):Calls Tryz.prog 32 #[.pointer (some ⟨rb,0,none⟩)] w (EPs (StS P a bad) P rb w a bad):=by
 have H:=hid h
 have HG:=hid hG
 have HBL:=hid hBl
 have HM:=hid hm
 clear hBl hm
 have HI_2:Hid _:=hi2
 have HI_3:Hid _:=hi3
 have HI_4:Hid _:=hi4
 have HI_5:Hid _:=hi5
 have HI_6:Hid _:=hi6
 have HB0:Hid (bad<0):=(zb9 hi6).1
 have ha:a<P.ts.length:=(zb9 hi6).2
 clear hi2 hi3 hi4 hi5 hi6
 have haw:IntKind.i64.wrap ((a:Int)+1)=((a+1:Nat):Int):=zb6 (by have:=H.out.lim;omega)
 clear h hG
 go_enter Tryz.func32,Tryz.ntmps32
 go_wp2_with (first
  | (go_at_call 55;refine (zb8 P rb _ a bad H.out).mono ?_;rintro e w1 ⟨rfl,hok⟩;have HR1:Hid (RI P rb w1 a bad):=H.out.ok hok;have HK1:Hid (Ok w w1):=hok;clear hok)
  | (go_at_call_of 30 ((⟨#[105,110,112,117,116]⟩:ByteArray));refine (zb1 P rb _ a bad _ HR1.out).mono ?_;rintro e w2 ⟨rfl,hok⟩;rw [show isS P a bad (⟨#[105,110,112,117,116]⟩:ByteArray).toList=false by (rw [ByteArray.toList_eq];exact HI_2.out)];have HR2:Hid (RI P rb w2 a bad):=HR1.out.ok hok;have HK2:Hid (Ok w w2):=HK1.out.step hok;clear hok)
  | (go_at_call_of 30 ((⟨#[97,115,115,101,114,116]⟩:ByteArray));refine (zb1 P rb _ a bad _ HR2.out).mono ?_;rintro e w3 ⟨rfl,hok⟩;rw [show isS P a bad (⟨#[97,115,115,101,114,116]⟩:ByteArray).toList=false by (rw [ByteArray.toList_eq];exact HI_3.out)];have HR3:Hid (RI P rb w3 a bad):=HR2.out.ok hok;have HK3:Hid (Ok w w3):=HK2.out.step hok;clear hok)
  | (go_at_call_of 30 ((⟨#[115,107,105,112]⟩:ByteArray));refine (zb1 P rb _ a bad _ HR3.out).mono ?_;rintro e w4 ⟨rfl,hok⟩;rw [show isS P a bad (⟨#[115,107,105,112]⟩:ByteArray).toList=false by (rw [ByteArray.toList_eq];exact HI_4.out)];have HR4:Hid (RI P rb w4 a bad):=HR3.out.ok hok;have HK4:Hid (Ok w w4):=HK3.out.step hok;clear hok)
  | (go_at_call_of 30 ((⟨#[119,104,105,108,101]⟩:ByteArray));refine (zb1 P rb _ a bad _ HR4.out).mono ?_;rintro e w5 ⟨rfl,hok⟩;rw [show isS P a bad (⟨#[119,104,105,108,101]⟩:ByteArray).toList=false by (rw [ByteArray.toList_eq];exact HI_5.out)];have HR5:Hid (RI P rb w5 a bad):=HR4.out.ok hok;have HK5:Hid (Ok w w5):=HK4.out.step hok;clear hok)
  | (go_at_call_of 30 ((⟨#[105,102]⟩:ByteArray));refine (zb1 P rb _ a bad _ HR5.out).mono ?_;rintro e w6 ⟨rfl,hok⟩;rw [show isS P a bad (⟨#[105,102]⟩:ByteArray).toList=true by (rw [ByteArray.toList_eq];exact HI_6.out)];have HR6:Hid (RI P rb w6 a bad):=HR5.out.ok hok;have HK6:Hid (Ok w w6):=HK5.out.step hok;obtain ⟨f0,f1,f2,f3,z0,z1,z2,z3⟩:=za7 HR6.out.row;have hlt:=HR6.out.lt;clear hok)
  | (go_at_call 60;refine (zk3 P rb HG.out _ (a+1) bad 0 (by decide) (HR6.out.setAt (a+1) ha)).mono ?_;rintro e w10 ⟨v3,ms,a6,b6,rfl,hnl,hri,hfr,hgot,h0⟩;obtain ⟨bo,cq,rfl⟩:=za0 hnl;have HQ:Hid (NL w10 w.heap.size (.slice bo ms.length cq) ms/\Got (ExS P 0 (a+1) bad) P (a+1) bad ms a6 b6/\ms.length<=65544):=⟨za8 hnl (by have:=HK6.out.le;simpa using this),hgot,hgot.len' HG.out hri.le⟩;have HR6:Hid (RI P rb w10 a6 b6/\Fr rb w w10/\Acc P a (0+ms.length) a6 b6 0):=⟨hri,((Fr.of HK6.out).set 1 _).trans hfr,(Acc.start P a bad).expr hgot h0⟩;clear hnl hri hfr hgot h0 f0 f1 f2 f3 z0 z1 z2 z3 hlt)
  | (go_at_call 61;refine (HBL.out ((P.ts.length-a6)*10+5) (by have:=HM.out;have:=HR6.out.2.2.le;omega) _ a6 b6 HR6.out.1 (Nat.le_refl _)).mono ?_;rintro e w11 ⟨v5,ks,a7,b7,rfl,hnl,hri,hfr,hgot⟩;obtain ⟨ko,kq,rfl⟩:=za0 hnl;have HS:Hid (NL w11 w.heap.size (.slice ko ks.length kq) ks/\Got (BkS P a6 b6) P a6 b6 ks a7 b7/\ks.length<=65544/\NL w11 w.heap.size (.slice bo ms.length cq) ms):=⟨za8 hnl HR6.out.2.1.le,hgot,hgot.len' HG.out hri.le,NL.up HQ.out.1 hfr H.out.lt⟩;have HR7:Hid (RI P rb w11 a7 b7/\Fr rb w w11/\Acc P a (0+ms.length+ks.length) a7 b7 1):=⟨hri,HR6.out.2.1.trans hfr,HR6.out.2.2.block hgot⟩;clear hnl hri hfr hgot)
  | fail)
 cases hel:isS P a7 b7 [101,108,115,101] with
 | false =>
  have HEL:Hid (isS P a7 b7 [101,108,115,101]=false):=hel
  clear hel
  refine (zb1 P rb _ a7 b7 _ HR7.out.1).mono ?_;rintro e w12 ⟨rfl,hok⟩;rw [show isS P a7 b7 (⟨#[101,108,115,101]⟩:ByteArray).toList=false by (rw [ByteArray.toList_eq];exact HEL.out)];have HR8:Hid (RI P rb w12 a7 b7/\Fr rb w w12/\NL w12 w.heap.size (.slice bo ms.length cq) ms/\NL w12 w.heap.size (.slice ko ks.length kq) ks):=⟨HR7.out.1.ok hok,HR7.out.2.1.trans (Fr.of hok),za1 HS.out.2.2.2 hok,za1 HS.out.1 hok⟩;clear hok
  go_wp2_with (first
   | (go_at_call 58;refine (zc4 _ ⟨0,7,⟨#[]⟩,0,0,(plS P a:Nat)⟩ _ [(.slice bo ms.length cq,ms),(.slice ko ks.length kq,ks)] (zF5 (za4 _ _) (za1 HR8.out.2.2.1.base ((Ok.refl w12).alloc _)) (za1 HR8.out.2.2.2.base ((Ok.refl w12).alloc _))) (by have:=HQ.out.2.2;have:=HS.out.2.2.1;rw [held2,List.length_append,List.length_map,List.length_map];omega) (by simp)).mono ?_;rintro e w21 ⟨v4,rfl,hn4,hok⟩;have HF:Hid (EPs (StS P a bad) P rb w a bad (.returned v4) w21):=zg4 HR8.out.2.1 HR8.out.1 HB0.out HR7.out.2.2 (by decide) (fit0 _ _ _) (by rw [held2,List.length_append,List.length_map,List.length_map,Nat.zero_add]) (zF7 HQ.out.2.1 HS.out.2.1) hn4 (by have:=(HR8.out.2.1).le;simp;omega) (((Ok.refl w12).alloc _).step hok) (StS.ifs ha HI_2.out HI_3.out HI_4.out HI_5.out HI_6.out HQ.out.2.1.sem HQ.out.2.1.le HS.out.2.1.sem HEL.out);clear hn4 hok)
   | fail)
  go_ret
  exact HF.out
 | true =>
  have HEL:Hid (isS P a7 b7 [101,108,115,101]=true):=hel
  clear hel
  have ha7:a7<P.ts.length:=(zb9 HEL.out).2
  have haw7:IntKind.i64.wrap ((a7:Int)+1)=((a7+1:Nat):Int):=zb6 (by have:=H.out.lim;omega)
  refine (zb1 P rb _ a7 b7 _ HR7.out.1).mono ?_;rintro e w12 ⟨rfl,hok⟩;rw [show isS P a7 b7 (⟨#[101,108,115,101]⟩:ByteArray).toList=true by (rw [ByteArray.toList_eq];exact HEL.out)];have HR8:Hid (RI P rb w12 a7 b7/\Fr rb w w12/\NL w12 w.heap.size (.slice bo ms.length cq) ms/\NL w12 w.heap.size (.slice ko ks.length kq) ks):=⟨HR7.out.1.ok hok,HR7.out.2.1.trans (Fr.of hok),za1 HS.out.2.2.2 hok,za1 HS.out.1 hok⟩;obtain ⟨f0,f1,f2,f3,z0,z1,z2,z3⟩:=za7 HR8.out.1.row;have hlt:=HR8.out.1.lt;clear hok
  go_wp2_with (first
   | (go_at_call 61;refine (HBL.out ((P.ts.length-(a7+1))*10+5) (by have:=HM.out;have:=HR7.out.2.2.le;omega) _ (a7+1) b7 (HR8.out.1.setAt (a7+1) ha7) (Nat.le_refl _)).mono ?_;rintro e w13 ⟨v6,js,a8,b8,rfl,hnl,hri,hfr,hgot⟩;obtain ⟨jo,jq,rfl⟩:=za0 hnl;have HU:Hid (NL w13 w.heap.size (.slice jo js.length jq) js/\Got (BkS P (a7+1) b7) P (a7+1) b7 js a8 b8/\js.length<=65544/\NL w13 w.heap.size (.slice bo ms.length cq) ms/\NL w13 w.heap.size (.slice ko ks.length kq) ks):=⟨za8 hnl (by have:=HR8.out.2.1.le;simpa using this),hgot,hgot.len' HG.out hri.le,NL.up HR8.out.2.2.1 (((Fr.refl rb w12).set 1 _).trans hfr) H.out.lt,NL.up HR8.out.2.2.2 (((Fr.refl rb w12).set 1 _).trans hfr) H.out.lt⟩;have HR9:Hid (RI P rb w13 a8 b8/\Fr rb w w13/\Acc P a (0+ms.length+ks.length+js.length) a8 b8 2):=⟨hri,(HR8.out.2.1.set 1 _).trans hfr,HR7.out.2.2.on.block hgot⟩;clear hnl hri hfr hgot f0 f1 f2 f3 z0 z1 z2 z3 hlt)
   | (go_at_call 58;refine (zc4 _ ⟨0,7,⟨#[]⟩,0,0,(plS P a:Nat)⟩ _ [(.slice bo ms.length cq,ms),(.slice ko ks.length kq,ks),(.slice jo js.length jq,js)] (yq7 (za4 _ _) (za1 HU.out.2.2.2.1.base ((Ok.refl w13).alloc _)) (za1 HU.out.2.2.2.2.base ((Ok.refl w13).alloc _)) (za1 HU.out.1.base ((Ok.refl w13).alloc _))) (by have:=HQ.out.2.2;have:=HS.out.2.2.1;have:=HU.out.2.2.1;rw [held3,List.length_append,List.length_append,List.length_map,List.length_map,List.length_map];omega) (by simp)).mono ?_;rintro e w21 ⟨v4,rfl,hn4,hok⟩;have HF:Hid (EPs (StS P a bad) P rb w a bad (.returned v4) w21):=zg4 HR9.out.2.1 HR9.out.1 HB0.out HR9.out.2.2 (by decide) (fit0 _ _ _) (by rw [held3,List.length_append,List.length_append,List.length_map,List.length_map,List.length_map];omega) (yg0 HQ.out.2.1 HS.out.2.1 HU.out.2.1) hn4 (by have:=HR9.out.2.1.le;simp;omega) (((Ok.refl w13).alloc _).step hok) (StS.ifelse ha HI_2.out HI_3.out HI_4.out HI_5.out HI_6.out HQ.out.2.1.sem HQ.out.2.1.le HS.out.2.1.sem HS.out.2.1.le HEL.out HU.out.2.1.sem);clear hn4 hok)
   | fail)
  go_ret
  exact HF.out
end
section
open Go.RowKit
set_option maxRecDepth 100000 in
theorem zK9 (P:RP) (rb:Nat) (w:World) (a:Nat) (bad:Int) (hG:GT P) (h:RI P rb w a bad) (hi2:isS P a bad [105,110,112,117,116]=false) (hi3:isS P a bad [97,115,115,101,114,116]=false) (hi4:isS P a bad [115,107,105,112]=false) (hi5:isS P a bad [119,104,105,108,101]=false) (hi6:isS P a bad [105,102]=false) (hn:namS P a bad=false):Calls Tryz.prog 32 #[.pointer (some ⟨rb,0,none⟩)] w (EPs (StS P a bad) P rb w a bad):=by
 have H:=hid h
 have HG:=hid hG
 have HI_2:Hid _:=hi2
 have HI_3:Hid _:=hi3
 have HI_4:Hid _:=hi4
 have HI_5:Hid _:=hi5
 have HI_6:Hid _:=hi6
 clear hi2 hi3 hi4 hi5 hi6
 have HN:=hid hn
 obtain ⟨b0,hb0⟩:∃ b,b=failS P a bad:=⟨_,rfl⟩
 have HB:Hid (b0=failS P a bad):=hb0
 have HPO:Hid (0<=b0):=by unfold Hid;rw [hb0];exact ze7 _ _ _
 clear h hG hn hb0
 go_enter Tryz.func32,Tryz.ntmps32
 go_wp2_with (first
  | (go_at_call 55;refine (zb8 P rb _ a bad H.out).mono ?_;rintro e w1 ⟨rfl,hok⟩;have HR1:Hid (RI P rb w1 a bad):=H.out.ok hok;have HK1:Hid (Ok w w1):=hok;clear hok)
  | (go_at_call_of 30 ((⟨#[105,110,112,117,116]⟩:ByteArray));refine (zb1 P rb _ a bad _ HR1.out).mono ?_;rintro e w2 ⟨rfl,hok⟩;rw [show isS P a bad (⟨#[105,110,112,117,116]⟩:ByteArray).toList=false by (rw [ByteArray.toList_eq];exact HI_2.out)];have HR2:Hid (RI P rb w2 a bad):=HR1.out.ok hok;have HK2:Hid (Ok w w2):=HK1.out.step hok;clear hok)
  | (go_at_call_of 30 ((⟨#[97,115,115,101,114,116]⟩:ByteArray));refine (zb1 P rb _ a bad _ HR2.out).mono ?_;rintro e w3 ⟨rfl,hok⟩;rw [show isS P a bad (⟨#[97,115,115,101,114,116]⟩:ByteArray).toList=false by (rw [ByteArray.toList_eq];exact HI_3.out)];have HR3:Hid (RI P rb w3 a bad):=HR2.out.ok hok;have HK3:Hid (Ok w w3):=HK2.out.step hok;clear hok)
  | (go_at_call_of 30 ((⟨#[115,107,105,112]⟩:ByteArray));refine (zb1 P rb _ a bad _ HR3.out).mono ?_;rintro e w4 ⟨rfl,hok⟩;rw [show isS P a bad (⟨#[115,107,105,112]⟩:ByteArray).toList=false by (rw [ByteArray.toList_eq];exact HI_4.out)];have HR4:Hid (RI P rb w4 a bad):=HR3.out.ok hok;have HK4:Hid (Ok w w4):=HK3.out.step hok;clear hok)
  | (go_at_call_of 30 ((⟨#[119,104,105,108,101]⟩:ByteArray));refine (zb1 P rb _ a bad _ HR4.out).mono ?_;rintro e w5 ⟨rfl,hok⟩;rw [show isS P a bad (⟨#[119,104,105,108,101]⟩:ByteArray).toList=false by (rw [ByteArray.toList_eq];exact HI_5.out)];have HR5:Hid (RI P rb w5 a bad):=HR4.out.ok hok;have HK5:Hid (Ok w w5):=HK4.out.step hok;clear hok)
  | (go_at_call_of 30 ((⟨#[105,102]⟩:ByteArray));refine (zb1 P rb _ a bad _ HR5.out).mono ?_;rintro e w6 ⟨rfl,hok⟩;rw [show isS P a bad (⟨#[105,102]⟩:ByteArray).toList=false by (rw [ByteArray.toList_eq];exact HI_6.out)];have HR6:Hid (RI P rb w6 a bad):=HR5.out.ok hok;have HK6:Hid (Ok w w6):=HK5.out.step hok;clear hok)
  | (go_at_call 56;refine (zi5 P rb _ a bad HR6.out).mono ?_;rintro e w10 ⟨s,rfl,hs,hr6,hf6⟩;have HSZ:Hid (s.size<=1000000):=zf2 HG.out hs;have HNA:Hid (s=naT P a bad):=zq4 hs;rw [HN.out] at hr6;simp only [Bool.false_eq_true,if_false] at hr6;rw [<-HB.out] at hr6;have HT1:Hid (RI P rb w10 a b0/\Fr rb w w10):=⟨hr6,(Fr.of HK6.out).trans hf6⟩;clear hs hr6 hf6)
  | (go_at_call_of 30 ((⟨#[91]⟩:ByteArray));refine (zb1 P rb _ a b0 _ HT1.out.1).mono ?_;rintro e w11 ⟨rfl,hok⟩;rw [zA6 HPO.out];have HT2:Hid (RI P rb w11 a b0/\Fr rb w w11):=⟨HT1.out.1.ok hok,HT1.out.2.trans (Fr.of hok)⟩;clear hok)
  | (go_at_call_of 57 ((⟨#[58,61]⟩:ByteArray));refine (zc6 P rb _ a b0 _ HT2.out.1).mono ?_;rintro e w12 ⟨rfl,hr,hf⟩;rw [zA6 HPO.out,zj5 HPO.out] at hr;simp only [Bool.false_eq_true,if_false] at hr;have HT3:Hid (RI P rb w12 a b0/\Fr rb w w12):=⟨hr,HT2.out.2.trans hf⟩;clear hr hf)
  | fail)
 refine (zk3 P rb HG.out _ a b0 0 (by decide) HT3.out.1).mono ?_
 rintro e w13 ⟨v3,ms,a6,b6,rfl,hnl,hri,hfr,hgot,h0⟩
 have e1:=(hgot.off HPO.out).2.1
 have e2:=(hgot.off HPO.out).2.2
 have e3:=h0 HPO.out
 have HEX:Hid (exA P a b0=([],a,b0)):=by have:=hgot.sem.all;rw [e1,e2,e3] at this;exact this
 rw [e1,e2] at hri
 rw [e3] at hnl
 obtain ⟨bo,cq,rfl⟩:=za0 hnl
 have HT4:Hid (RI P rb w13 a b0/\Fr rb w w13):=⟨hri,HT3.out.2.trans hfr⟩
 have HNB:Hid (NL w13 w.heap.size (.slice bo 0 cq) []):=za8 hnl HT3.out.2.le
 clear hnl hri hfr hgot h0 e1 e2 e3
 go_wp2_with (first
  | (go_at_call_of 57 ((⟨#[59]⟩:ByteArray));refine (zc6 P rb _ a b0 _ HT4.out.1).mono ?_;rintro e w14 ⟨rfl,hr,hf⟩;rw [zA6 HPO.out,zj5 HPO.out] at hr;simp only [Bool.false_eq_true,if_false] at hr;have HT5:Hid (RI P rb w14 a b0/\Fr rb w w14):=⟨hr,HT4.out.2.trans hf⟩;have HNC:Hid (NL w14 w.heap.size (.slice bo 0 cq) []):=NL.up HNB.out hf H.out.lt;clear hr hf)
  | (go_at_call 58;refine (zc4 _ ⟨0,2,s,0,0,(plS P a:Nat)⟩ _ [(.slice bo 0 cq,[])] (HD.one (za4 _ _) (za1 HNC.out.base ((Ok.refl w14).alloc _))) (by simp [held]) (by simp)).mono ?_;rintro e w21 ⟨v4,rfl,hn4,hok⟩;have HF:Hid (EPs (StS P a bad) P rb w a bad (.returned v4) w21):=⟨v4,_,a,b0,rfl,za8 hn4 (by have:=HT5.out.2.le;simp;omega),HT5.out.1.ok (((Ok.refl w14).alloc _).step hok),HT5.out.2.trans (Fr.of (((Ok.refl w14).alloc _).step hok)),Got.badBlock HPO.out (fun h0=>by rw [HB.out];exact zj5 h0) ⟨HSZ.out,by simp,by simp,by simp⟩ (StS.noname ⟨HI_2.out,HI_3.out,HI_4.out,HI_5.out,HI_6.out⟩ HN.out HNA.out HB.out HPO.out HEX.out)⟩;clear hn4 hok)
  | fail)
 go_ret
 exact HF.out
end
end Go.Proofs.YtenoopfeplalnaaGreatDoor
