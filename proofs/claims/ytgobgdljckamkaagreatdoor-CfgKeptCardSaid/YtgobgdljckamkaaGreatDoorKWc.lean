import Derived.Test.YtgobgdljckamkaaGreatDoorKWc0
set_option linter.unusedVariables false
set_option linter.unusedSimpArgs false
set_option linter.unnecessarySimpa false
namespace Go.Proofs.YtgobgdljckamkaaGreatDoor
open Go.RowKit
set_option maxRecDepth 100000 in
set_option maxHeartbeats 8000000 in
theorem zM6 (gb cap B:Nat) (a:Nat→Nat→Option Addr) (n c:Nat→Nat→Nat) (x y:Nat→Int) (X:Nat→Nat→List Value) (w:World) (hr:RowsY a n c w B X) (hd:Dist a n c) (hg:∀ k,k<4→∀ q,q<9→w.cell? ⟨gb,k*9+q,none⟩=some (gcV a n c x y k q)) (hl:gb<w.heap.size)
  (hne:∀ k,k<4→∀ j,j<7→∀ b,(slG a n c k j).ownBlock=some b→b≠gb) (hn:∀ k,k<4→∀ j,j<7→n k j≤100000) (hB:B≤w.heap.size) :
  Calls Tryz.prog 29 #[.slice (some ⟨gb,0,none⟩) 4 cap] w fun e w'=>e=.returned (.tuple #[])∧MI a n c w w' B gb (Yf n X 28):=by
 have HD:=hid hd
 have HNE:=hid hne
 have HN:=hid hn
 have HB:=hid hB
 have HXL:Hid (∀ k,k<4→∀ j,j<7→(X k j).length=n k j*(wdM k j).length):=fun k hk j hj=>by rw [zF2 k hj];exact (hr k hk j hj).1
 have HG:Hid (∀ W:World,W.heap[gb]?=w.heap[gb]?→∀ k,k<4→∀ q,q<9→W.cell? ⟨gb,k*9+q,none⟩=some (gcV a n c x y k q)):=fun W e k hk q hq=>by rw [←hg k hk q hq];unfold World.cell?;simp only [e]
 have HM0:Hid (MI a n c w w B gb (Yf n X 0)):=⟨fun k hk j hj=>by unfold Yf;rw [if_neg (by omega)];exact hr k hk j hj,Below.refl _ _,rfl,hl⟩
 clear hr hd hg hl hne hn hB
 go_enter Tryz.func29,Tryz.ntmps29
 go_wp2_with fail
 go_loopw [13] (fun t wr=>∃ kk:Nat,kk≤4∧t=.int .i64 (kk:Nat)∧Hid (MI a n c w wr B gb (Yf n X (kk*7)))) (fun t _=>4-(intOf t).toNat)
 case atStart=>exact ⟨0,by omega,rfl,HM0.out⟩
 case round =>
  obtain ⟨kk,hkk,rfl,HI⟩:=hrel
  by_cases hk4:kk<4
  ·have hk4':(kk:Int)<4:=by omega
   have hkw9:IntKind.i64.wrap ((kk:Int)+1)=((kk+1:Nat):Int):=zb0 (by omega)
   have HK4:=hid hk4
   have h3k:wrap64 (3*(kk:Int))=3*(kk:Int):=by unfold wrap64;omega
   have h3l:wrap64 (-1-3*(kk:Int)) = -1-3*(kk:Int):=by unfold wrap64;omega
   have G:=HG.out wr HI.out.gs kk hk4
   have lgb:=HI.out.lt
   have g0:=G 0 (by decide)
   have g1:=G 1 (by decide)
   have g2:=G 2 (by decide)
   have g3:=G 3 (by decide)
   have g4:=G 4 (by decide)
   have g5:=G 5 (by decide)
   have g6:=G 6 (by decide)
   have g7:=G 7 (by decide)
   have g8:=G 8 (by decide)
   simp only [gcV,slG,Nat.reduceLT,Nat.reduceEqDiff,if_true,if_false,Nat.add_zero] at g0 g1 g2 g3 g4 g5 g6 g7 g8
   obtain ⟨a0,ha0⟩:∃ z,z=a kk 0:=⟨_,rfl⟩
   obtain ⟨n0,hn0⟩:∃ z,z=n kk 0:=⟨_,rfl⟩
   obtain ⟨c0,hc0⟩:∃ z,z=c kk 0:=⟨_,rfl⟩
   obtain ⟨a1,ha1⟩:∃ z,z=a kk 1:=⟨_,rfl⟩
   obtain ⟨n1,hn1⟩:∃ z,z=n kk 1:=⟨_,rfl⟩
   obtain ⟨c1,hc1⟩:∃ z,z=c kk 1:=⟨_,rfl⟩
   obtain ⟨a2,ha2⟩:∃ z,z=a kk 2:=⟨_,rfl⟩
   obtain ⟨n2,hn2⟩:∃ z,z=n kk 2:=⟨_,rfl⟩
   obtain ⟨c2,hc2⟩:∃ z,z=c kk 2:=⟨_,rfl⟩
   obtain ⟨a3,ha3⟩:∃ z,z=a kk 3:=⟨_,rfl⟩
   obtain ⟨n3,hn3⟩:∃ z,z=n kk 3:=⟨_,rfl⟩
   obtain ⟨c3,hc3⟩:∃ z,z=c kk 3:=⟨_,rfl⟩
   obtain ⟨a4,ha4⟩:∃ z,z=a kk 4:=⟨_,rfl⟩
   obtain ⟨n4,hn4⟩:∃ z,z=n kk 4:=⟨_,rfl⟩
   obtain ⟨c4,hc4⟩:∃ z,z=c kk 4:=⟨_,rfl⟩
   obtain ⟨a5,ha5⟩:∃ z,z=a kk 5:=⟨_,rfl⟩
   obtain ⟨n5,hn5⟩:∃ z,z=n kk 5:=⟨_,rfl⟩
   obtain ⟨c5,hc5⟩:∃ z,z=c kk 5:=⟨_,rfl⟩
   obtain ⟨a6,ha6⟩:∃ z,z=a kk 6:=⟨_,rfl⟩
   obtain ⟨n6,hn6⟩:∃ z,z=n kk 6:=⟨_,rfl⟩
   obtain ⟨c6,hc6⟩:∃ z,z=c kk 6:=⟨_,rfl⟩
   rw [←ha0,←hn0,←hc0] at g0
   rw [←ha1,←hn1,←hc1] at g1
   rw [←ha2,←hn2,←hc2] at g2
   rw [←ha3,←hn3,←hc3] at g3
   rw [←ha4,←hn4,←hc4] at g4
   rw [←ha5,←hn5,←hc5] at g5
   rw [←ha6,←hn6,←hc6] at g8
   obtain ⟨gx,hgx⟩:∃ z,z=x kk:=⟨_,rfl⟩
   obtain ⟨gy,hgy⟩:∃ z,z=y kk:=⟨_,rfl⟩
   rw [←hgx] at g6
   rw [←hgy] at g7
   have HEQ:Hid (a0=a kk 0∧n0=n kk 0∧a1=a kk 1∧n1=n kk 1∧a2=a kk 2∧n2=n kk 2∧a3=a kk 3∧n3=n kk 3∧a4=a kk 4∧n4=n kk 4∧a5=a kk 5∧n5=n kk 5∧a6=a kk 6∧n6=n kk 6):=⟨ha0,hn0,ha1,hn1,ha2,hn2,ha3,hn3,ha4,hn4,ha5,hn5,ha6,hn6⟩
   have HLE:Hid (n0≤100000∧n1≤100000∧n2≤100000∧n3≤100000∧n4≤100000∧n5≤100000∧n6≤100000):=⟨by rw [hn0];exact HN.out kk hk4 0 (by decide),by rw [hn1];exact HN.out kk hk4 1 (by decide),by rw [hn2];exact HN.out kk hk4 2 (by decide),by rw [hn3];exact HN.out kk hk4 3 (by decide),by rw [hn4];exact HN.out kk hk4 4 (by decide),by rw [hn5];exact HN.out kk hk4 5 (by decide),by rw [hn6];exact HN.out kk hk4 6 (by decide)⟩
   clear G hgx hgy ha0 hn0 hc0 ha1 hn1 hc1 ha2 hn2 hc2 ha3 hn3 hc3 ha4 hn4 hc4 ha5 hn5 hc5 ha6 hn6 hc6
   go_upto_region 4 with (fail)
   obtain ⟨wA,hwA⟩:∃ z,z=wr.alloc (Obj.cells #[Value.slice a0 n0 c0,Value.slice a1 n1 c1,Value.slice a2 n2 c2,Value.slice a3 n3 c3,Value.slice a4 n4 c4,Value.slice a5 n5 c5,Value.int .i64 gx,Value.int .i64 gy,Value.slice a6 n6 c6] 42):=⟨_,rfl⟩
   obtain ⟨gl,hgl⟩:∃ z,z=wr.heap.size:=⟨_,rfl⟩
   rw [←hwA,←hgl]
   have HBW:Hid (B≤wr.heap.size):=by have h1:=HI.out.bel.size;have h2:=HB.out;unfold Hid;omega
   have HMA:Hid (MI a n c w wA B gb (Yf n X (kk*7))):=by unfold Hid;rw [hwA];exact HI.out.call HBW.out ((Ok.refl _).alloc _)
   have HLA:Hid (wA.heap[gl]?=some (.cells #[Value.slice a0 n0 c0,Value.slice a1 n1 c1,Value.slice a2 n2 c2,Value.slice a3 n3 c3,Value.slice a4 n4 c4,Value.slice a5 n5 c5,Value.int .i64 gx,Value.int .i64 gy,Value.slice a6 n6 c6] 42 (0,0))):=by unfold Hid;rw [hwA,hgl];exact za6 _ _
   have HGL:Hid (B≤gl∧gl≠gb∧∀ j,j<7→∀ b,a kk j=some ⟨b,0,none⟩→b<gl):=⟨by have:=HBW.out;omega,by have:=HI.out.lt;omega,fun j hj b hb=>by rw [hgl];exact ((HI.out.rows kk HK4.out j hj).lt b (by unfold slG;rw [hb];rfl)).2⟩
   have HFM:Hid (∀ j,j<7→n kk j≠0→∃ b,a kk j=some ⟨b,0,none⟩):=fun j hj h0=>by
    obtain ⟨g,cp,e,_⟩:=(HI.out.rows kk HK4.out j hj).form (by omega)
    injection e with e1
    exact ⟨g,e1⟩
   have HCG:Hid (∀ W:World,W.heap[gl]?=some (.cells #[Value.slice a0 n0 c0,Value.slice a1 n1 c1,Value.slice a2 n2 c2,Value.slice a3 n3 c3,Value.slice a4 n4 c4,Value.slice a5 n5 c5,Value.int .i64 gx,Value.int .i64 gy,Value.slice a6 n6 c6] 42 (0,0))→gl<W.heap.size∧W.cell? ⟨gl,0,none⟩=some (.slice a0 n0 c0)∧W.cell? ⟨gl,1,none⟩=some (.slice a1 n1 c1)∧W.cell? ⟨gl,2,none⟩=some (.slice a2 n2 c2)∧W.cell? ⟨gl,3,none⟩=some (.slice a3 n3 c3)∧W.cell? ⟨gl,4,none⟩=some (.slice a4 n4 c4)∧W.cell? ⟨gl,5,none⟩=some (.slice a5 n5 c5)∧W.cell? ⟨gl,8,none⟩=some (.slice a6 n6 c6)∧W.cell? ⟨gl,6,none⟩=some (.int .i64 gx)∧W.cell? ⟨gl,7,none⟩=some (.int .i64 gy)):=fun W e=>⟨za3 e,(cell_of_row _ _ 0 _ _ _ e).trans (by simp),(cell_of_row _ _ 1 _ _ _ e).trans (by simp),(cell_of_row _ _ 2 _ _ _ e).trans (by simp),(cell_of_row _ _ 3 _ _ _ e).trans (by simp),(cell_of_row _ _ 4 _ _ _ e).trans (by simp),(cell_of_row _ _ 5 _ _ _ e).trans (by simp),(cell_of_row _ _ 8 _ _ _ e).trans (by simp),(cell_of_row _ _ 6 _ _ _ e).trans (by simp),(cell_of_row _ _ 7 _ _ _ e).trans (by simp)⟩
   clear hwA hgl g0 g1 g2 g3 g4 g5 g6 g7 g8 lgb hkk
   obtain ⟨z1,q0,q1,q2,q3,q4,q5,q6,q7,q8⟩:=HCG.out wA HLA.out
   go_wp2_with fail
   go_loopw [23] (fun t wr=>∃ i:Nat,i≤n6∧t=.int .i64 (i:Nat)∧Hid (MI a n c w wr B gb (updY (Yf n X (kk*7)) kk 6 (parY X kk 6 i)))∧Hid (wr.heap[gl]?=some (.cells #[Value.slice a0 n0 c0,Value.slice a1 n1 c1,Value.slice a2 n2 c2,Value.slice a3 n3 c3,Value.slice a4 n4 c4,Value.slice a5 n5 c5,Value.int .i64 gx,Value.int .i64 gy,Value.slice a6 n6 c6] 42 (0,0)))) (fun t _=>n6-(intOf t).toNat)
   case atStart=>exact ⟨0,Nat.zero_le _,rfl,by unfold Hid;rw [show (kk*7)=kk*7+(6+1)%7 from rfl,zo1];exact HMA.out,HLA.out⟩
   case round =>
    try clear z1 q0 q1 q2 q3 q4 q5 q6 q7 q8
    obtain ⟨i,hi,rfl,HM6,HL6⟩:=hrel
    obtain ⟨z1,q0,q1,q2,q3,q4,q5,q6,q7,q8⟩:=HCG.out wr HL6.out
    by_cases hlt:i<n6
    ·have hlt':(i:Int)<(n6:Int):=za4 hlt
     have hkw:IntKind.i64.wrap ((i:Int)+1)=((i+1:Nat):Int):=zb0 (by have:=HLE.out;omega)
     have HEJ:Hid (a6=a kk 6∧n6=n kk 6):=⟨HEQ.out.2.2.2.2.2.2.2.2.2.2.2.2.1,HEQ.out.2.2.2.2.2.2.2.2.2.2.2.2.2⟩
     obtain ⟨b,hb⟩:=HFM.out 6 (by decide) (by have:=HEJ.out.2;omega)
     have HAB:=hid hb
     have e7:a6=some ⟨b,0,none⟩:=HEJ.out.1.trans hb
     have hbl:b<gl:=HGL.out.2.2 6 (by decide) b hb
     have HBG:=hid (HNE.out kk HK4.out 6 (by decide) b (by unfold slG;rw [hb];rfl))
     have nb1:¬b=gl:=by omega
     have nb2:¬gl=b:=by omega
     subst e7
     have HBI:Hid (B≤wr.heap.size):=by have h1:=HM6.out.bel.size;have h2:=HB.out;unfold Hid;omega
     have K0:wr.drew.cell? ⟨gl,8,none⟩=some (.slice (some ⟨b,0,none⟩) n6 c6):=q6
     clear hb
     go_wp2_with fail
     go_region_held3 (fun Z=>Z.cell? ⟨gl,8,none⟩=some (.slice (some ⟨b,0,none⟩) n6 c6))
      (first | (with_reducible exact d01) | (with_reducible exact K0) | go_keep)
      (first
      | (go_at_call 46;refine (Calls.mono (zp0 kk HK4.out _) ?_);rintro e w5 ⟨rfl,hk5⟩;have HK5:Hid (Ok wr w5):=Ok.step (Below.drew (Ok.refl _)) hk5;have HM5:Hid _:=HM6.out.call HBI.out HK5.out;have HL5:Hid _:=Ok.row' HK5.out HL6.out;obtain ⟨zz,y0,y1,y2,y3,y4,y5,y6,_⟩:=HCG.out w5 HL5.out;have d01:w5.cell? ⟨gl,8,none⟩=some (.slice (some ⟨b,0,none⟩) n6 c6):=y6;obtain ⟨hcl,hfz,hbs,_⟩:=HM5.out.cell (i:=i) HK4.out (by decide) HAB.out (by have:=HEJ.out.2;omega);obtain ⟨v0,t0⟩:=hcl 0 (by decide);replace t0:w5.cell? ⟨b,i*6,none⟩=some v0:=t0;obtain ⟨v1,t1⟩:=hcl 1 (by decide);replace t1:w5.cell? ⟨b,i*6+1,none⟩=some v1:=t1;obtain ⟨v2,t2⟩:=hcl 2 (by decide);replace t2:w5.cell? ⟨b,i*6+2,none⟩=some v2:=t2;obtain ⟨v3,t3⟩:=hcl 3 (by decide);replace t3:w5.cell? ⟨b,i*6+3,none⟩=some v3:=t3;obtain ⟨v4,t4⟩:=hcl 4 (by decide);replace t4:w5.cell? ⟨b,i*6+4,none⟩=some v4:=t4;obtain ⟨v5,t5⟩:=hcl 5 (by decide);replace t5:w5.cell? ⟨b,i*6+5,none⟩=some v5:=t5;clear hk5 hcl y0 y1 y2 y3 y4 y5 y6)
      | fail)
     obtain ⟨w6,hw6⟩:∃ z,z=((((((w5.setCell ⟨b,i*6,none⟩ (.int .i64 (-1-(kk:Int)))).setCell ⟨b,i*6+1,none⟩ (.int .i64 0)).setCell ⟨b,i*6+2,none⟩ (.int .i64 0)).setCell ⟨b,i*6+3,none⟩ (.int .i64 0)).setCell ⟨b,i*6+4,none⟩ (.bool false)).setCell ⟨b,i*6+5,none⟩ (.bool false)):=⟨_,rfl⟩
     rw [←hw6]
     have hw7:w6=setL w5 b (i*SZ7 6) (wdM kk 6):=hw6
     have HM6:Hid (MI a n c w w6 B gb (updY (Yf n X (kk*7)) kk 6 (parY X kk 6 (i+1)))):=by unfold Hid;rw [hw7];exact HM5.out.mark HD.out HK4.out (by decide) HAB.out HBG.out (by have:=HEJ.out.2;omega) (HXL.out kk HK4.out 6 (by decide))
     have HL6:Hid _:=(show w6.heap[gl]?=w5.heap[gl]? by rw [hw7];exact zg7 b nb2 _ _ _).trans HL5.out
     clear hw6 hw7 hfz hbs d01 t0 t1 t2 t3 t4 t5
     go_wp2_with fail
     go_roundw
     case rel=>exact ⟨i+1,hlt,rfl,HM6,HL6⟩
     case measure=>simp only [intOf,Int.toNat_natCast];omega
    ·have hlt':¬(i:Int)<(n6:Int):=za9 hlt
     have HF6:Hid (MI a n c w wr B gb (Yf n X (kk*7+1))):=by
      have e:i=n kk 6:=by have:=HEQ.out;omega
      have h:=HM6.out
      rw [e] at h
      exact h.congr fun k' _ j' hj'=>zC1 X (by decide) (HXL.out kk HK4.out 6 (by decide)) k' j' hj'
     clear hi hlt HM6
     go_wp2_with fail
     go_loopw [37] (fun t wr=>∃ i:Nat,i≤n0∧t=.int .i64 (i:Nat)∧Hid (MI a n c w wr B gb (updY (Yf n X (kk*7+1)) kk 0 (parY X kk 0 i)))∧Hid (wr.heap[gl]?=some (.cells #[Value.slice a0 n0 c0,Value.slice a1 n1 c1,Value.slice a2 n2 c2,Value.slice a3 n3 c3,Value.slice a4 n4 c4,Value.slice a5 n5 c5,Value.int .i64 gx,Value.int .i64 gy,Value.slice a6 n6 c6] 42 (0,0)))) (fun t _=>n0-(intOf t).toNat)
     case atStart=>exact ⟨0,Nat.zero_le _,rfl,by unfold Hid;rw [show (kk*7+1)=kk*7+(0+1)%7 from rfl,zo1];exact HF6.out,HL6.out⟩
     case round =>
      try clear z1 q0 q1 q2 q3 q4 q5 q6 q7 q8
      obtain ⟨i,hi,rfl,HM0,HL0⟩:=hrel
      obtain ⟨z1,q0,q1,q2,q3,q4,q5,q6,q7,q8⟩:=HCG.out wr HL0.out
      by_cases hlt:i<n0
      ·have hlt':(i:Int)<(n0:Int):=za4 hlt
       have hkw:IntKind.i64.wrap ((i:Int)+1)=((i+1:Nat):Int):=zb0 (by have:=HLE.out;omega)
       have HEJ:Hid (a0=a kk 0∧n0=n kk 0):=⟨HEQ.out.1,HEQ.out.2.1⟩
       obtain ⟨b,hb⟩:=HFM.out 0 (by decide) (by have:=HEJ.out.2;omega)
       have HAB:=hid hb
       have e7:a0=some ⟨b,0,none⟩:=HEJ.out.1.trans hb
       have hbl:b<gl:=HGL.out.2.2 0 (by decide) b hb
       have HBG:=hid (HNE.out kk HK4.out 0 (by decide) b (by unfold slG;rw [hb];rfl))
       have nb1:¬b=gl:=by omega
       have nb2:¬gl=b:=by omega
       subst e7
       have HBI:Hid (B≤wr.heap.size):=by have h1:=HM0.out.bel.size;have h2:=HB.out;unfold Hid;omega
       have K0:wr.drew.cell? ⟨gl,0,none⟩=some (.slice (some ⟨b,0,none⟩) n0 c0):=q0
       clear hb
       go_wp2_with fail
       go_region_held3 (fun Z=>Z.cell? ⟨gl,0,none⟩=some (.slice (some ⟨b,0,none⟩) n0 c0))
        (first | (with_reducible exact d01) | (with_reducible exact K0) | go_keep)
        (first
        | (go_at_call 47;refine (Calls.mono (zp1 kk HK4.out _) ?_);rintro e w5 ⟨rfl,hk5⟩;have HK5:Hid (Ok wr w5):=Ok.step (Below.drew (Ok.refl _)) hk5;have HM5:Hid _:=HM0.out.call HBI.out HK5.out;have HL5:Hid _:=Ok.row' HK5.out HL0.out;obtain ⟨zz,y0,y1,y2,y3,y4,y5,y6,_⟩:=HCG.out w5 HL5.out;have d01:w5.cell? ⟨gl,0,none⟩=some (.slice (some ⟨b,0,none⟩) n0 c0):=y0;obtain ⟨hcl,hfz,hbs,_⟩:=HM5.out.cell (i:=i) HK4.out (by decide) HAB.out (by have:=HEJ.out.2;omega);obtain ⟨v0,t0⟩:=hcl 0 (by decide);replace t0:w5.cell? ⟨b,i*6,none⟩=some v0:=t0;obtain ⟨v1,t1⟩:=hcl 1 (by decide);replace t1:w5.cell? ⟨b,i*6+1,none⟩=some v1:=t1;obtain ⟨v2,t2⟩:=hcl 2 (by decide);replace t2:w5.cell? ⟨b,i*6+2,none⟩=some v2:=t2;obtain ⟨v3,t3⟩:=hcl 3 (by decide);replace t3:w5.cell? ⟨b,i*6+3,none⟩=some v3:=t3;obtain ⟨v4,t4⟩:=hcl 4 (by decide);replace t4:w5.cell? ⟨b,i*6+4,none⟩=some v4:=t4;obtain ⟨v5,t5⟩:=hcl 5 (by decide);replace t5:w5.cell? ⟨b,i*6+5,none⟩=some v5:=t5;clear hk5 hcl y0 y1 y2 y3 y4 y5 y6)
        | fail)
       obtain ⟨w6,hw6⟩:∃ z,z=((((((w5.setCell ⟨b,i*6,none⟩ (.int .i64 (-1-(kk:Int)))).setCell ⟨b,i*6+1,none⟩ (.int .i64 0)).setCell ⟨b,i*6+2,none⟩ (.string ⟨#[]⟩)).setCell ⟨b,i*6+3,none⟩ (.int .i64 0)).setCell ⟨b,i*6+4,none⟩ (.int .i64 0)).setCell ⟨b,i*6+5,none⟩ (.int .i64 0)):=⟨_,rfl⟩
       rw [←hw6]
       have hw7:w6=setL w5 b (i*SZ7 0) (wdM kk 0):=hw6
       have HM6:Hid (MI a n c w w6 B gb (updY (Yf n X (kk*7+1)) kk 0 (parY X kk 0 (i+1)))):=by unfold Hid;rw [hw7];exact HM5.out.mark HD.out HK4.out (by decide) HAB.out HBG.out (by have:=HEJ.out.2;omega) (HXL.out kk HK4.out 0 (by decide))
       have HL6:Hid _:=(show w6.heap[gl]?=w5.heap[gl]? by rw [hw7];exact zg7 b nb2 _ _ _).trans HL5.out
       clear hw6 hw7 hfz hbs d01 t0 t1 t2 t3 t4 t5
       go_wp2_with fail
       go_roundw
       case rel=>exact ⟨i+1,hlt,rfl,HM6,HL6⟩
       case measure=>simp only [intOf,Int.toNat_natCast];omega
      ·have hlt':¬(i:Int)<(n0:Int):=za9 hlt
       have HF0:Hid (MI a n c w wr B gb (Yf n X (kk*7+2))):=by
        have e:i=n kk 0:=by have:=HEQ.out;omega
        have h:=HM0.out
        rw [e] at h
        exact h.congr fun k' _ j' hj'=>zC1 X (by decide) (HXL.out kk HK4.out 0 (by decide)) k' j' hj'
       clear hi hlt HM0
       go_wp2_with fail
       go_loopw [52] (fun t wr=>∃ i:Nat,i≤n1∧t=.int .i64 (i:Nat)∧Hid (MI a n c w wr B gb (updY (Yf n X (kk*7+2)) kk 1 (parY X kk 1 i)))∧Hid (wr.heap[gl]?=some (.cells #[Value.slice a0 n0 c0,Value.slice a1 n1 c1,Value.slice a2 n2 c2,Value.slice a3 n3 c3,Value.slice a4 n4 c4,Value.slice a5 n5 c5,Value.int .i64 gx,Value.int .i64 gy,Value.slice a6 n6 c6] 42 (0,0)))) (fun t _=>n1-(intOf t).toNat)
       case atStart=>exact ⟨0,Nat.zero_le _,rfl,by unfold Hid;rw [show (kk*7+2)=kk*7+(1+1)%7 from rfl,zo1];exact HF0.out,HL0.out⟩
       case round =>
        try clear z1 q0 q1 q2 q3 q4 q5 q6 q7 q8
        obtain ⟨i,hi,rfl,HM1,HL1⟩:=hrel
        obtain ⟨z1,q0,q1,q2,q3,q4,q5,q6,q7,q8⟩:=HCG.out wr HL1.out
        by_cases hlt:i<n1
        ·have hlt':(i:Int)<(n1:Int):=za4 hlt
         have hkw:IntKind.i64.wrap ((i:Int)+1)=((i+1:Nat):Int):=zb0 (by have:=HLE.out;omega)
         have HEJ:Hid (a1=a kk 1∧n1=n kk 1):=⟨HEQ.out.2.2.1,HEQ.out.2.2.2.1⟩
         obtain ⟨b,hb⟩:=HFM.out 1 (by decide) (by have:=HEJ.out.2;omega)
         have HAB:=hid hb
         have e7:a1=some ⟨b,0,none⟩:=HEJ.out.1.trans hb
         have hbl:b<gl:=HGL.out.2.2 1 (by decide) b hb
         have HBG:=hid (HNE.out kk HK4.out 1 (by decide) b (by unfold slG;rw [hb];rfl))
         have nb1:¬b=gl:=by omega
         have nb2:¬gl=b:=by omega
         subst e7
         have HBI:Hid (B≤wr.heap.size):=by have h1:=HM1.out.bel.size;have h2:=HB.out;unfold Hid;omega
         have K0:wr.drew.cell? ⟨gl,1,none⟩=some (.slice (some ⟨b,0,none⟩) n1 c1):=q1
         clear hb
         go_wp2_with fail
         go_region_held3 (fun Z=>Z.cell? ⟨gl,1,none⟩=some (.slice (some ⟨b,0,none⟩) n1 c1))
          (first | (with_reducible exact d01) | (with_reducible exact K0) | go_keep)
          (first
          | (go_at_call 48;refine (Calls.mono (zp2 kk HK4.out _) ?_);rintro e w5 ⟨rfl,hk5⟩;have HK5:Hid (Ok wr w5):=Ok.step (Below.drew (Ok.refl _)) hk5;have HM5:Hid _:=HM1.out.call HBI.out HK5.out;have HL5:Hid _:=Ok.row' HK5.out HL1.out;obtain ⟨zz,y0,y1,y2,y3,y4,y5,y6,_⟩:=HCG.out w5 HL5.out;have d01:w5.cell? ⟨gl,1,none⟩=some (.slice (some ⟨b,0,none⟩) n1 c1):=y1;obtain ⟨hcl,hfz,hbs,_⟩:=HM5.out.cell (i:=i) HK4.out (by decide) HAB.out (by have:=HEJ.out.2;omega);obtain ⟨v0,t0⟩:=HM5.out.cell1 (i:=i) HK4.out (by decide) HAB.out (by have:=HEJ.out.2;omega) rfl;clear hk5 hcl y0 y1 y2 y3 y4 y5 y6)
          | fail)
         obtain ⟨w6,hw6⟩:∃ z,z=(w5.setCell ⟨b,i,none⟩ (.string (nmM kk))):=⟨_,rfl⟩
         rw [←hw6]
         have hw7:w6=setL w5 b (i*SZ7 1) (wdM kk 1):=hw6.trans (zI3 rfl rfl)
         have HM6:Hid (MI a n c w w6 B gb (updY (Yf n X (kk*7+2)) kk 1 (parY X kk 1 (i+1)))):=by unfold Hid;rw [hw7];exact HM5.out.mark HD.out HK4.out (by decide) HAB.out HBG.out (by have:=HEJ.out.2;omega) (HXL.out kk HK4.out 1 (by decide))
         have HL6:Hid _:=(show w6.heap[gl]?=w5.heap[gl]? by rw [hw7];exact zg7 b nb2 _ _ _).trans HL5.out
         clear hw6 hw7 hfz hbs d01 t0
         go_wp2_with fail
         go_roundw
         case rel=>exact ⟨i+1,hlt,rfl,HM6,HL6⟩
         case measure=>simp only [intOf,Int.toNat_natCast];omega
        ·have hlt':¬(i:Int)<(n1:Int):=za9 hlt
         have HF1:Hid (MI a n c w wr B gb (Yf n X (kk*7+3))):=by
          have e:i=n kk 1:=by have:=HEQ.out;omega
          have h:=HM1.out
          rw [e] at h
          exact h.congr fun k' _ j' hj'=>zC1 X (by decide) (HXL.out kk HK4.out 1 (by decide)) k' j' hj'
         clear hi hlt HM1
         go_wp2_with fail
         go_loopw [67] (fun t wr=>∃ i:Nat,i≤n2∧t=.int .i64 (i:Nat)∧Hid (MI a n c w wr B gb (updY (Yf n X (kk*7+3)) kk 2 (parY X kk 2 i)))∧Hid (wr.heap[gl]?=some (.cells #[Value.slice a0 n0 c0,Value.slice a1 n1 c1,Value.slice a2 n2 c2,Value.slice a3 n3 c3,Value.slice a4 n4 c4,Value.slice a5 n5 c5,Value.int .i64 gx,Value.int .i64 gy,Value.slice a6 n6 c6] 42 (0,0)))) (fun t _=>n2-(intOf t).toNat)
         case atStart=>exact ⟨0,Nat.zero_le _,rfl,by unfold Hid;rw [show (kk*7+3)=kk*7+(2+1)%7 from rfl,zo1];exact HF1.out,HL1.out⟩
         case round =>
          try clear z1 q0 q1 q2 q3 q4 q5 q6 q7 q8
          obtain ⟨i,hi,rfl,HM2,HL2⟩:=hrel
          obtain ⟨z1,q0,q1,q2,q3,q4,q5,q6,q7,q8⟩:=HCG.out wr HL2.out
          by_cases hlt:i<n2
          ·have hlt':(i:Int)<(n2:Int):=za4 hlt
           have hkw:IntKind.i64.wrap ((i:Int)+1)=((i+1:Nat):Int):=zb0 (by have:=HLE.out;omega)
           have HEJ:Hid (a2=a kk 2∧n2=n kk 2):=⟨HEQ.out.2.2.2.2.1,HEQ.out.2.2.2.2.2.1⟩
           obtain ⟨b,hb⟩:=HFM.out 2 (by decide) (by have:=HEJ.out.2;omega)
           have HAB:=hid hb
           have e7:a2=some ⟨b,0,none⟩:=HEJ.out.1.trans hb
           have hbl:b<gl:=HGL.out.2.2 2 (by decide) b hb
           have HBG:=hid (HNE.out kk HK4.out 2 (by decide) b (by unfold slG;rw [hb];rfl))
           have nb1:¬b=gl:=by omega
           have nb2:¬gl=b:=by omega
           subst e7
           have HBI:Hid (B≤wr.heap.size):=by have h1:=HM2.out.bel.size;have h2:=HB.out;unfold Hid;omega
           have K0:wr.drew.cell? ⟨gl,2,none⟩=some (.slice (some ⟨b,0,none⟩) n2 c2):=q2
           clear hb
           go_wp2_with fail
           go_region_held3 (fun Z=>Z.cell? ⟨gl,2,none⟩=some (.slice (some ⟨b,0,none⟩) n2 c2))
            (first | (with_reducible exact d01) | (with_reducible exact K0) | go_keep)
            (first
            | (go_at_call 49;refine (Calls.mono (zm5 kk HK4.out _) ?_);rintro e w5 ⟨rfl,hk5⟩;have HK5:Hid (Ok wr w5):=Ok.step (Below.drew (Ok.refl _)) hk5;have HM5:Hid _:=HM2.out.call HBI.out HK5.out;have HL5:Hid _:=Ok.row' HK5.out HL2.out;obtain ⟨zz,y0,y1,y2,y3,y4,y5,y6,_⟩:=HCG.out w5 HL5.out;have d01:w5.cell? ⟨gl,2,none⟩=some (.slice (some ⟨b,0,none⟩) n2 c2):=y2;obtain ⟨hcl,hfz,hbs,_⟩:=HM5.out.cell (i:=i) HK4.out (by decide) HAB.out (by have:=HEJ.out.2;omega);obtain ⟨v0,t0⟩:=hcl 0 (by decide);replace t0:w5.cell? ⟨b,i*2,none⟩=some v0:=t0;obtain ⟨v1,t1⟩:=hcl 1 (by decide);replace t1:w5.cell? ⟨b,i*2+1,none⟩=some v1:=t1;clear hk5 hcl y0 y1 y2 y3 y4 y5 y6)
            | fail)
           obtain ⟨w6,hw6⟩:∃ z,z=((w5.setCell ⟨b,i*2,none⟩ (.string ⟨#[]⟩)).setCell ⟨b,i*2+1,none⟩ (.int .i64 (-1-(kk:Int)))):=⟨_,rfl⟩
           rw [←hw6]
           have hw7:w6=setL w5 b (i*SZ7 2) (wdM kk 2):=hw6
           have HM6:Hid (MI a n c w w6 B gb (updY (Yf n X (kk*7+3)) kk 2 (parY X kk 2 (i+1)))):=by unfold Hid;rw [hw7];exact HM5.out.mark HD.out HK4.out (by decide) HAB.out HBG.out (by have:=HEJ.out.2;omega) (HXL.out kk HK4.out 2 (by decide))
           have HL6:Hid _:=(show w6.heap[gl]?=w5.heap[gl]? by rw [hw7];exact zg7 b nb2 _ _ _).trans HL5.out
           clear hw6 hw7 hfz hbs d01 t0 t1
           go_wp2_with fail
           go_roundw
           case rel=>exact ⟨i+1,hlt,rfl,HM6,HL6⟩
           case measure=>simp only [intOf,Int.toNat_natCast];omega
          ·have hlt':¬(i:Int)<(n2:Int):=za9 hlt
           have HF2:Hid (MI a n c w wr B gb (Yf n X (kk*7+4))):=by
            have e:i=n kk 2:=by have:=HEQ.out;omega
            have h:=HM2.out
            rw [e] at h
            exact h.congr fun k' _ j' hj'=>zC1 X (by decide) (HXL.out kk HK4.out 2 (by decide)) k' j' hj'
           clear hi hlt HM2
           go_wp2_with fail
           refine (zH9 _ _ _ _ _ _ _ _ _ _ _ _ _ _ _ _ _ _ _ _ _ _ _ wr).mono ?_
           rintro e wi ⟨r,rfl,hr1,hr2,hk9⟩
           have HBZ:Hid (B≤wr.heap.size):=by have h1:=HF2.out.bel.size;have h2:=HB.out;unfold Hid;omega
           have HMI:=hid (HF2.out.call HBZ.out hk9)
           have HRW:=hid hr2
           have HRB:Hid (gl<r):=by unfold Hid;omega
           clear hk9 hr1 hr2 z1 q0 q1 q2 q3 q4 q5 q6 q7 q8
           go_wp2_with fail
           go_loopw [82] (fun t wr=>∃ m:Nat,m≤3∧t=.int .i64 (m:Nat)∧Hid (MI a n c w wr B gb (Yf n X (kk*7+4+m)))∧Hid (wr.heap[r]?=some (.cells #[.slice a3 n3 c3,.slice a4 n4 c4,.slice a5 n5 c5] 25 (0,0)))) (fun t _=>3-(intOf t).toNat)
           case atStart=>exact ⟨0,by omega,rfl,HMI,HRW⟩
           case round =>
            obtain ⟨m,hm,rfl,HMM,HRM⟩:=hrel
            by_cases hlt:m<3
            ·have hmw:IntKind.i64.wrap ((m:Int)+1)=((m+1:Nat):Int):=zb0 (by omega)
             have hlt':(m:Int)<3:=by omega
             obtain ⟨av,nv,cv,hrow⟩:∃ av nv cv,(∀ W:World,W.heap[r]?=some (.cells #[.slice a3 n3 c3,.slice a4 n4 c4,.slice a5 n5 c5] 25 (0,0))→W.cell? ⟨r,m,none⟩=some (.slice av nv cv)∧r<W.heap.size)∧av=a kk (3+m)∧nv=n kk (3+m):=by
              rcases (show m=0∨m=1∨m=2 by omega) with rfl | rfl | rfl
              ·exact ⟨a3,n3,c3,fun W h=>⟨(cell_of_row _ _ 0 _ _ _ h).trans (by simp),za3 h⟩,HEQ.out.2.2.2.2.2.2.1,HEQ.out.2.2.2.2.2.2.2.1⟩
              ·exact ⟨a4,n4,c4,fun W h=>⟨(cell_of_row _ _ 1 _ _ _ h).trans (by simp),za3 h⟩,HEQ.out.2.2.2.2.2.2.2.2.1,HEQ.out.2.2.2.2.2.2.2.2.2.1⟩
              ·exact ⟨a5,n5,c5,fun W h=>⟨(cell_of_row _ _ 2 _ _ _ h).trans (by simp),za3 h⟩,HEQ.out.2.2.2.2.2.2.2.2.2.2.1,HEQ.out.2.2.2.2.2.2.2.2.2.2.2.1⟩
             have HRX:=hid hrow
             have h3m:wrap64 (-1-3*(kk:Int)-(m:Int)) = -1-3*(kk:Int)-(m:Int):=by have:=HK4.out;unfold wrap64;omega
             have HNV:Hid (nv≤100000):=by have:=HN.out kk HK4.out (3+m) (by omega);unfold Hid;rw [hrow.2.2];exact this
             have HLM:=hid hlt
             have hwd:wdM kk (3+m)=[.int .i64 (-1-3*(kk:Int)-(m:Int))]:=by unfold wdM;rw [if_neg (by omega),if_neg (by omega),if_neg (by omega),if_neg (by omega)];congr 2;omega
             have HWD:Hid (wdM kk (3+m)=[.int .i64 (-1-3*(kk:Int)-(m:Int))]∧SZ7 (3+m)=1):=⟨hwd,by rw [←zF2 kk (show 3+m<7 by omega),hwd];rfl⟩
             have HRK:Hid (kk*7+4+m=kk*7+(3+m+1)%7):=by unfold Hid;omega
             obtain ⟨s0,s1⟩:=hrow.1 wr HRM.out
             clear hrow hm hwd
             go_wp2_with fail
             go_loopw [90] (fun t wr=>∃ i:Nat,i≤nv∧t=.int .i64 (i:Nat)∧Hid (MI a n c w wr B gb (updY (Yf n X (kk*7+(3+m+1)%7)) kk (3+m) (parY X kk (3+m) i)))∧Hid (wr.heap[r]?=some (.cells #[.slice a3 n3 c3,.slice a4 n4 c4,.slice a5 n5 c5] 25 (0,0)))) (fun t _=>nv-(intOf t).toNat)
             case atStart=>exact ⟨0,Nat.zero_le _,rfl,by unfold Hid;rw [zo1,←HRK.out];exact HMM.out,HRM⟩
             case round =>
              clear s0 s1
              obtain ⟨i,hi,rfl,HZ,HRZ⟩:=hrel
              obtain ⟨s0,s1⟩:=HRX.out.1 wr HRZ.out
              by_cases hln:i<nv
              ·have hln':(i:Int)<(nv:Int):=za4 hln
               have hkw:IntKind.i64.wrap ((i:Int)+1)=((i+1:Nat):Int):=zb0 (by have:=HNV.out;omega)
               obtain ⟨b,hb⟩:=HFM.out (3+m) (by have:=HLM.out;omega) (by have:=HRX.out.2.2;omega)
               have HAB:=hid hb
               have e7:av=some ⟨b,0,none⟩:=HRX.out.2.1.trans hb
               have hbl:b<gl:=HGL.out.2.2 (3+m) (by have:=HLM.out;omega) b hb
               have HBG:=hid (HNE.out kk HK4.out (3+m) (by have:=HLM.out;omega) b (by unfold slG;rw [hb];rfl))
               have nb2:r≠b:=by have:=HRB.out;omega
               subst e7
               obtain ⟨v0,t0⟩:=HZ.out.cell1 (i:=i) HK4.out (by have:=HLM.out;omega) HAB.out (by have:=HRX.out.2.2;omega) HWD.out.2
               obtain ⟨_,hfz,hbs,_⟩:=HZ.out.cell (i:=i) HK4.out (by have:=HLM.out;omega) HAB.out (by have:=HRX.out.2.2;omega)
               clear hb
               go_upto_region 32 with (fail)
               obtain ⟨w6,hw6⟩:∃ z,z=wr.setCell ⟨b,i,none⟩ (.int .i64 (-1-3*(kk:Int)-(m:Int))):=⟨_,rfl⟩
               rw [←hw6]
               have hw7:w6=setL wr b (i*SZ7 (3+m)) (wdM kk (3+m)):=hw6.trans (zI3 HWD.out.2 HWD.out.1)
               have HM6:Hid (MI a n c w w6 B gb (updY (Yf n X (kk*7+(3+m+1)%7)) kk (3+m) (parY X kk (3+m) (i+1)))):=by unfold Hid;rw [hw7];exact HZ.out.mark HD.out HK4.out (by have:=HLM.out;omega) HAB.out HBG.out (by have:=HRX.out.2.2;omega) (HXL.out kk HK4.out (3+m) (by have:=HLM.out;omega))
               have HR6:Hid _:=(show w6.heap[r]?=wr.heap[r]? by rw [hw7];exact zg7 b nb2 _ _ _).trans HRZ.out
               clear hw6 hw7 hfz hbs t0 s0 s1
               go_wp2_with fail
               go_roundw
               case rel=>exact ⟨i+1,hln,rfl,HM6,HR6⟩
               case measure=>simp only [intOf,Int.toNat_natCast];omega
              ·have hln':¬(i:Int)<(nv:Int):=za9 hln
               have HFZ:Hid (MI a n c w wr B gb (Yf n X (kk*7+4+(m+1)))):=by
                have e:i=n kk (3+m):=by have:=HRX.out.2.2;omega
                have h:=HZ.out
                rw [e] at h
                have h2:=h.congr fun k' _ j' hj'=>zC1 X (by have:=HLM.out;omega) (HXL.out kk HK4.out (3+m) (by have:=HLM.out;omega)) k' j' hj'
                rw [←HRK.out] at h2
                exact h2
               go_wp2_with fail
               go_roundw
               case rel=>exact ⟨m+1,by have:=HLM.out;omega,rfl,HFZ,HRZ⟩
               case measure=>have:=HLM.out;simp only [intOf,Int.toNat_natCast];omega
            ·have hlt':¬(m:Int)<3:=by omega
             have HFK:Hid (MI a n c w wr B gb (Yf n X ((kk+1)*7))):=by have h:=HMM.out;rw [show kk*7+4+m=(kk+1)*7 by omega] at h;exact h
             go_wp2_with fail
             go_roundw
             case rel=>exact ⟨kk+1,by have:=HK4.out;omega,rfl,HFK⟩
             case measure=>have:=HK4.out;simp only [intOf,Int.toNat_natCast];omega
  ·have hk4':¬(kk:Int)<4:=by omega
   have HE:Hid (kk=4):=by unfold Hid;omega
   go_wp2_with fail
   go_end0
   exact ⟨rfl,by have h:=HI.out;rw [HE.out] at h;exact h⟩
end Go.Proofs.YtgobgdljckamkaaGreatDoor
