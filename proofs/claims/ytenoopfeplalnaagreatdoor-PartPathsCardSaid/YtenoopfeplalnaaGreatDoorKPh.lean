import Derived.Test.YtenoopfeplalnaaGreatDoorKPe
set_option maxHeartbeats 8000000
set_option linter.all false
namespace Go.Proofs.YtenoopfeplalnaaGreatDoor
section
open Go.RowKit
theorem eqNode (n:Nd) (w:World):(Op.equalIn 10000 73 (.agg #[.int .i64 n.depth,.int .i64 n.kind,.string n.name,.int .i64 n.num,.int .i64 n.op,.int .i64 n.pos]) (.agg #[.int .i64 n.depth,.int .i64 n.kind,.string n.name,.int .i64 n.num,.int .i64 n.op,.int .i64 n.pos])).run Tryz.prog w=.ok true w:=by
 rw [show (10000:Nat)=9999+1 from rfl,run_equalIn_agg w 9999 73 _ _ (by kernel_rfl) (by kernel_rfl)]
 simp only [Program.fieldsOf,Tryz.underlying73]
 go_simp
theorem guNd:Tryz.prog.eqGuardType Tryz.prog.depth 73=false:=by kernel_rfl
theorem zG4 {l m:Ls} (h:likeB eqSt l.sc m.sc=false):sameLs l m=false:=by unfold sameLs;rw [h];simp
theorem zG5 {l m:Ls} (h:likeB eqAr l.ar m.ar=false):sameLs l m=false:=by unfold sameLs;rw [h];simp
theorem yh2 {l m:Ls} (h:likeB eqIn l.sy m.sy=false):sameLs l m=false:=by unfold sameLs;rw [h];simp
theorem yh3 {l m:Ls} (h:likeB eqIn l.si m.si=false):sameLs l m=false:=by unfold sameLs;rw [h];simp
theorem yh4 {l m:Ls} (h:likeB eqIn l.so m.so=false):sameLs l m=false:=by unfold sameLs;rw [h];simp
set_option maxRecDepth 100000 in
theorem yh5 (v0 v1 v2 v3 v4 v5 u0 u1 u2 u3 u4 u5:Value) (ns:List Nd) (l m:Ls) (w:World) (hp:ProgIs w v0 v1 v2 v3 v4 v5 ns l) (hq:ProgIs w u0 u1 u2 u3 u4 u5 ns m) :
  Calls Tryz.prog 25 #[.agg #[v0,v1,v2,v3,v4,v5],.agg #[u0,u1,u2,u3,u4,u5]] w fun e w'=>e=.returned (.bool (sameLs l m))/\Ok w w':=by
 obtain ⟨w0,hw0⟩:∃ w0,w0=(w.alloc (Obj.cells #[v0,v1,v2,v3,v4,v5] 30)).alloc (Obj.cells #[u0,u1,u2,u3,u4,u5] 30):=⟨_,rfl⟩
 have HB0:Hid (Ok w w0):=by unfold Hid;rw [hw0];exact ((Ok.refl w).alloc _).alloc _
 have HA0:Hid (PC w0 w.heap.size v0 v1 v2 v3 v4 v5):=by unfold Hid;rw [hw0];exact (PC.new w v0 v1 v2 v3 v4 v5).below ((Below.refl _ _).alloc (Nat.le_refl _) _)
 have HC0:Hid (PC w0 (w.heap.size+1) u0 u1 u2 u3 u4 u5):=by
  have:=PC.new (w.alloc (Obj.cells #[v0,v1,v2,v3,v4,v5] 30)) u0 u1 u2 u3 u4 u5
  rw [show (w.alloc (Obj.cells #[v0,v1,v2,v3,v4,v5] 30)).heap.size=w.heap.size+1 from by simp] at this
  unfold Hid;rw [hw0];exact this
 have HP0:Hid (ProgIs w0 v0 v1 v2 v3 v4 v5 ns l):=hp.below HB0.out
 have HQ0:Hid (ProgIs w0 u0 u1 u2 u3 u4 u5 ns m):=hq.below HB0.out
 obtain ⟨_,x0,y0,rfl,_,hy0,_⟩:=hp.nodes
 obtain ⟨hx1,x1,y1,rfl,_⟩:=hp.lists.sc
 obtain ⟨hx2,x2,y2,rfl,_⟩:=hp.lists.ar
 obtain ⟨_,X0,Y0,rfl,_,hY0,_⟩:=hq.nodes
 obtain ⟨hX1,X1,Y1,rfl,_⟩:=hq.lists.sc
 obtain ⟨hX2,X2,Y2,rfl,_⟩:=hq.lists.ar
 clear hp hq
 unfold maxLen at hx1 hx2 hX1 hX2 hy0 hY0
 by_cases h1:l.sc.length=m.sc.length
 case neg =>
  have HE:Hid (sameLs l m=false):=zG4 (zh8 _ _ _ h1)
  have b1:((l.sc.length:Int)==(m.sc.length:Int))=false:=by rw [beq_eq_false_iff_ne];omega
  have b1':((l.sc.length:Int) != (m.sc.length:Int))=true:=by rw [bne_iff_ne];omega
  clear h1
  go_enter Tryz.func25,Tryz.ntmps25
  go_wp2_with fail
  rw [<-hw0]
  go_ret
  exact ⟨za5 HE.out.symm,HB0.out⟩
 by_cases h2:l.ar.length=m.ar.length
 case neg =>
  have HE:Hid (sameLs l m=false):=zG5 (zh8 _ _ _ h2)
  have b1:((l.sc.length:Int)==(m.sc.length:Int))=true:=by rw [h1];simp
  have b2:((l.ar.length:Int)==(m.ar.length:Int))=false:=by rw [beq_eq_false_iff_ne];omega
  have b2':((l.ar.length:Int) != (m.ar.length:Int))=true:=by rw [bne_iff_ne];omega
  have b1':((l.sc.length:Int) != (m.sc.length:Int))=false:=by rw [h1];simp
  clear h1 h2
  go_enter Tryz.func25,Tryz.ntmps25
  go_wp2_with fail
  rw [<-hw0]
  go_ret
  exact ⟨za5 HE.out.symm,HB0.out⟩
 have HH:Hid (l.sc.length=m.sc.length/\l.ar.length=m.ar.length):=⟨h1,h2⟩
 rw [h1,h2] at HP0 HA0 hw0 ⊢
 clear h1 h2
 go_enter Tryz.func25,Tryz.ntmps25
 go_wp2_with fail
 rw [<-hw0]
 clear hw0
 refine (zu1 _ _ _ _ _ HP0.out.lists.sy HQ0.out.lists.sy).mono ?_
 rintro e w1 ⟨rfl,hb1⟩
 have HB1:Hid (Ok w w1):=HB0.out.step hb1
 have HA1:Hid _:=HA0.out.below hb1
 have HC1:Hid _:=HC0.out.below hb1
 have HP1:Hid _:=HP0.out.below hb1
 have HQ1:Hid _:=HQ0.out.below hb1
 clear hb1 HP0 HQ0 HA0 HC0 HB0
 have z4:=HA1.out.c4
 have y4:=HC1.out.c4
 cases h3:likeB eqIn l.sy m.sy
 ·have HE:Hid (sameLs l m=false):=yh2 h3
  go_wp2_with fail
  go_ret
  exact ⟨za5 HE.out.symm,HB1.out⟩
 go_wp2_with fail
 refine (zu1 _ _ _ _ _ HP1.out.lists.si HQ1.out.lists.si).mono ?_
 rintro e w2 ⟨rfl,hb2⟩
 have HB2:Hid (Ok w w2):=HB1.out.step hb2
 have HA2:Hid _:=HA1.out.below hb2
 have HC2:Hid _:=HC1.out.below hb2
 have HP2:Hid _:=HP1.out.below hb2
 have HQ2:Hid _:=HQ1.out.below hb2
 clear hb2 HP1 HQ1 HA1 HC1 HB1 z4 y4
 have z5:=HA2.out.c5
 have y5:=HC2.out.c5
 cases h4:likeB eqIn l.si m.si
 ·have HE:Hid (sameLs l m=false):=yh3 h4
  go_wp2_with fail
  go_ret
  exact ⟨za5 HE.out.symm,HB2.out⟩
 go_wp2_with fail
 refine (zu1 _ _ _ _ _ HP2.out.lists.so HQ2.out.lists.so).mono ?_
 rintro e w3 ⟨rfl,hb3⟩
 have HB3:Hid (Ok w w3):=HB2.out.step hb3
 have HA3:Hid _:=HA2.out.below hb3
 have HC3:Hid _:=HC2.out.below hb3
 have HP3:Hid _:=HP2.out.below hb3
 have HQ3:Hid _:=HQ2.out.below hb3
 clear hb3 HP2 HQ2 HA2 HC2 HB2 z5 y5
 cases h5:likeB eqIn l.so m.so
 ·have HE:Hid (sameLs l m=false):=yh4 h5
  go_wp2_with fail
  go_ret
  exact ⟨za5 HE.out.symm,HB3.out⟩
 have HSM:Hid (sameLs l m=(likeB eqSt l.sc m.sc&&likeB eqAr l.ar m.ar)):=by unfold Hid sameLs;rw [h3,h4,h5];simp
 clear h3 h4 h5
 have z0:=HA3.out.c0
 have y0':=HC3.out.c0
 go_wp2_with fail
 go_loopw [5] (fun t wr=>∃ k:Nat,k<=ns.length/\t=.int .i64 k/\Hid (Ok w3 wr)) (fun t _=>ns.length-(intOf t).toNat)
 case atStart=>exact ⟨0,Nat.zero_le _,rfl,Ok.refl _⟩
 case round =>
  clear z0 y0'
  obtain ⟨k,hk,rfl,HW⟩:=hrel
  have HAw:Hid _:=HA3.out.below HW.out
  have HCw:Hid _:=HC3.out.below HW.out
  have z0:=HAw.out.c0
  have y0':=HCw.out.c0
  have ltA:=HAw.out.lt
  have ltC:=HCw.out.lt
  by_cases hlt:k<ns.length
  ·obtain ⟨_,ao,cap,e1,_,_,hN⟩:=HP3.out.nodes
   injection e1 with e1 e2 e3;clear e2
   subst e1 e3
   obtain ⟨_,ao,cap,e1,_,_,hM⟩:=HQ3.out.nodes
   injection e1 with e1 e2 e3;clear e2
   subst e1 e3
   have hne:ns≠[]:=fun e=>by rw [e] at hlt;simp at hlt
   obtain ⟨b1,o1,rfl,N1⟩:=hN.resolve_left hne
   obtain ⟨b2,o2,rfl,N2⟩:=hM.resolve_left hne
   have M1:=N1.below HW.out
   have M2:=N2.below HW.out
   have hlt':(k:Int)<(ns.length:Int):=za6 hlt
   have hkw:IntKind.i64.wrap ((k:Int)+1)=((k+1:Nat):Int):=zd5 (by omega) (by omega)
   have c0:=M1.c0 k hlt
   have c1:=M1.c1 k hlt
   have c2:=M1.c2 k hlt
   have c3:=M1.c3 k hlt
   have c4:=M1.c4 k hlt
   have c5:=M1.c5 k hlt
   have d0:=M2.c0 k hlt
   have d1:=M2.c1 k hlt
   have d2:=M2.c2 k hlt
   have d3:=M2.c3 k hlt
   have d4:=M2.c4 k hlt
   have d5:=M2.c5 k hlt
   have l1:=M1.lt
   have l2:=M2.lt
   generalize ns[k]=x at *
   have gq:=guNd
   have eq1:∀ w,(Op.equalIn 10000 73 (.agg #[.int .i64 x.depth,.int .i64 x.kind,.string x.name,.int .i64 x.num,.int .i64 x.op,.int .i64 x.pos]) (.agg #[.int .i64 x.depth,.int .i64 x.kind,.string x.name,.int .i64 x.num,.int .i64 x.op,.int .i64 x.pos])).run Tryz.prog w=.ok true w:=eqNode x
   clear N1 N2 M1 M2 hN hM hne
   go_wp2_with fail
   go_quiet (fail)
   go_wp2_with fail
   exact ⟨⟨k+1,hlt,by go_num,(HW.out.alloc _).draws _⟩,by simp [intOf];omega⟩
  ·have hlt':¬(k:Int)<(ns.length:Int):=zb3 hlt
   clear z0 y0'
   have z0:=HAw.out.c0
   go_wp2_with fail
   clear z0
   obtain ⟨w4,hw4⟩:∃ w4,w4=wr:=⟨_,rfl⟩
   subst hw4
   have z1:=HAw.out.c1
   have y1':=HCw.out.c1
   have HP4:Hid _:=HP3.out.below HW.out
   have HQ4:Hid _:=HQ3.out.below HW.out
   have HB4:Hid (Ok w w4):=HB3.out.step HW.out
   have HCN:Hid (m.sc.length<=9223372036854775807/\m.ar.length<=9223372036854775807):=⟨hX1,hX2⟩
   clear hlt' hk hlt HP3 HQ3 HB3
   go_loopw [7] (fun t wr=>∃ k:Nat,k<=m.sc.length/\t=.int .i64 k/\Hid (likeB eqSt l.sc m.sc=likeB eqSt (l.sc.drop k) (m.sc.drop k))/\Hid (Ok w4 wr)) (fun t _=>m.sc.length-(intOf t).toNat)
   case atStart=>exact ⟨0,Nat.zero_le _,rfl,rfl,Ok.refl _⟩
   case round =>
    clear z1 y1'
    obtain ⟨j,hj,rfl,HR,HV⟩:=hrel
    have HAv:Hid _:=HAw.out.below HV.out
    have HCv:Hid _:=HCw.out.below HV.out
    have HPv:Hid _:=HP4.out.below HV.out
    have HQv:Hid _:=HQ4.out.below HV.out
    have HBv:Hid (Ok w wr):=HB4.out.step HV.out
    have zz:=HAv.out.c1
    have yy:=HCv.out.c1
    have ltA:=HAv.out.lt
    have ltC:=HCv.out.lt
    by_cases hjl:j<m.sc.length
    ·obtain ⟨_,ao,cap,e1,hN⟩:=HPv.out.lists.sc
     injection e1 with e1 e2 e3;clear e2
     subst e1 e3
     obtain ⟨_,ao,cap,e1,hM⟩:=HQv.out.lists.sc
     injection e1 with e1 e2 e3;clear e2
     subst e1 e3
     have i1:j<l.sc.length:=by have:=HH.out.1;omega
     obtain ⟨b1,o1,rfl,N1⟩:=hN.resolve_left (fun e=>by rw [e] at i1;simp at i1)
     obtain ⟨b2,o2,rfl,N2⟩:=hM.resolve_left (fun e=>by rw [e] at hjl;simp at hjl)
     have hjl':(j:Int)<(m.sc.length:Int):=za6 hjl
     have hjw:IntKind.i64.wrap ((j:Int)+1)=((j+1:Nat):Int):=zd5 (by omega) (by have:=HCN.out.1;omega)
     have c0:=N1.c j i1
     have d0:=N2.c j hjl
     skip
     skip
     have l1:=N1.lt
     have l2:=N2.lt
     have hr:=HR.out
     rw [zh5 _ l.sc m.sc j i1 hjl] at hr
     generalize l.sc[j]=x at *
     generalize m.sc[j]=y at *
     clear N1 N2 hN hM i1
     cases hq:(eqSt x y)
     ·have HE:Hid (sameLs l m=false):=zG4 (by rw [hr,hq];rfl)
      clear hr HR
      unfold eqSt at hq
      skip
      skip
      go_wp2_with fail
      go_quiet (fail)
      go_wp2_with fail
      go_ret
      exact ⟨za5 HE.out.symm,HBv.out.draws _⟩
     ·have HE:Hid (likeB eqSt l.sc m.sc=likeB eqSt (l.sc.drop (j+1)) (m.sc.drop (j+1))):=by unfold Hid;rw [hr,hq];rfl
      clear hr HR
      unfold eqSt at hq
      skip
      skip
      go_wp2_with fail
      go_quiet (fail)
      go_wp2_with fail
      exact ⟨⟨j+1,hjl,by go_num,HE,HV.out.draws _⟩,by simp [intOf];omega⟩
    ·have hjl':¬(j:Int)<(m.sc.length:Int):=zb3 hjl
     have HT:Hid (likeB eqSt l.sc m.sc=true):=by unfold Hid;rw [HR.out,List.drop_of_length_le (by have:=HH.out.1;omega),List.drop_of_length_le (by omega)];rfl
     have HTS:Hid (likeB eqSt l.sc m.sc=true):=HT.out
     go_wp2_with fail
     clear zz yy ltA ltC hjl' hjl hj
     clear HAw HCw HP4 HQ4 HB4 HR HT HV HW
     obtain ⟨w5,hw5⟩:∃ w5,w5=wr:=⟨_,rfl⟩
     subst hw5
     have HAw:Hid _:=HAv.out
     have HCw:Hid _:=HCv.out
     have HP4:Hid _:=HPv.out
     have HQ4:Hid _:=HQv.out
     have HB4:Hid (Ok w w5):=HBv.out
     clear HAv HCv HPv HQv HBv
     have z2:=HAw.out.c2
     have y2':=HCw.out.c2
     go_loopw [8] (fun t wr=>∃ k:Nat,k<=m.ar.length/\t=.int .i64 k/\Hid (likeB eqAr l.ar m.ar=likeB eqAr (l.ar.drop k) (m.ar.drop k))/\Hid (Ok w5 wr)) (fun t _=>m.ar.length-(intOf t).toNat)
     case atStart=>exact ⟨0,Nat.zero_le _,rfl,rfl,Ok.refl _⟩
     case round =>
      clear z2 y2'
      obtain ⟨j,hj,rfl,HR,HV⟩:=hrel
      have HAv:Hid _:=HAw.out.below HV.out
      have HCv:Hid _:=HCw.out.below HV.out
      have HPv:Hid _:=HP4.out.below HV.out
      have HQv:Hid _:=HQ4.out.below HV.out
      have HBv:Hid (Ok w wr):=HB4.out.step HV.out
      have zz:=HAv.out.c2
      have yy:=HCv.out.c2
      have ltA:=HAv.out.lt
      have ltC:=HCv.out.lt
      by_cases hjl:j<m.ar.length
      ·obtain ⟨_,ao,cap,e1,hN⟩:=HPv.out.lists.ar
       injection e1 with e1 e2 e3;clear e2
       subst e1 e3
       obtain ⟨_,ao,cap,e1,hM⟩:=HQv.out.lists.ar
       injection e1 with e1 e2 e3;clear e2
       subst e1 e3
       have i1:j<l.ar.length:=by have:=HH.out.2;omega
       obtain ⟨b1,o1,rfl,N1⟩:=hN.resolve_left (fun e=>by rw [e] at i1;simp at i1)
       obtain ⟨b2,o2,rfl,N2⟩:=hM.resolve_left (fun e=>by rw [e] at hjl;simp at hjl)
       have hjl':(j:Int)<(m.ar.length:Int):=za6 hjl
       have hjw:IntKind.i64.wrap ((j:Int)+1)=((j+1:Nat):Int):=zd5 (by omega) (by have:=HCN.out.2;omega)
       have c0:=N1.c j i1
       have d0:=N2.c j hjl
       have c1:=N1.d j i1
       have d1:=N2.d j hjl
       have l1:=N1.lt
       have l2:=N2.lt
       have hr:=HR.out
       rw [zh5 _ l.ar m.ar j i1 hjl] at hr
       generalize l.ar[j]=x at *
       generalize m.ar[j]=y at *
       clear N1 N2 hN hM i1
       cases hq:(eqAr x y)
       ·have HE:Hid (sameLs l m=false):=zG5 (by rw [hr,hq];rfl)
        clear hr HR
        unfold eqAr at hq
        have g76:=gu76
        have e76:∀ w,(Op.equalIn 10000 109 (.agg #[.string x.1,.int .i64 x.2]) (.agg #[.string y.1,.int .i64 y.2])).run Tryz.prog w=.ok false w:=fun w=>by rw [eq76,hq]
        go_wp2_with fail
        go_quiet (fail)
        go_wp2_with fail
        go_ret
        exact ⟨za5 HE.out.symm,HBv.out.draws _⟩
       ·have HE:Hid (likeB eqAr l.ar m.ar=likeB eqAr (l.ar.drop (j+1)) (m.ar.drop (j+1))):=by unfold Hid;rw [hr,hq];rfl
        clear hr HR
        unfold eqAr at hq
        have g76:=gu76
        have e76:∀ w,(Op.equalIn 10000 109 (.agg #[.string x.1,.int .i64 x.2]) (.agg #[.string y.1,.int .i64 y.2])).run Tryz.prog w=.ok true w:=fun w=>by rw [eq76,hq]
        go_wp2_with fail
        go_quiet (fail)
        go_wp2_with fail
        exact ⟨⟨j+1,hjl,by go_num,HE,HV.out.draws _⟩,by simp [intOf];omega⟩
      ·have hjl':¬(j:Int)<(m.ar.length:Int):=zb3 hjl
       have HT:Hid (likeB eqAr l.ar m.ar=true):=by unfold Hid;rw [HR.out,List.drop_of_length_le (by have:=HH.out.2;omega),List.drop_of_length_le (by omega)];rfl
       have HE:Hid (sameLs l m=true):=by unfold Hid;rw [HSM.out,HTS.out,HT.out];rfl
       go_wp2_with fail
       go_ret
       exact ⟨za5 HE.out.symm,HBv.out⟩
end
section
open Go.RowKit
theorem zL4 {w:World} {B:Nat} {e:TypeId} {s n:Nat} {v:Value} {xs:List Value} (h:w.ownsRow B e s v n xs):n<=maxLen:=by
 rcases h.2 with ⟨_,h0⟩ | ⟨g,cap,cur,_,_,_,h1,h2,_⟩
 ·rw [h0];exact Nat.zero_le _
 ·omega
theorem zq9 {w:World} {B g cap:Nat} {e:TypeId} {s n:Nat} {xs:List Value} (h:w.ownsRow B e s (.slice (some ⟨g,0,none⟩) n cap) n xs) {j:Nat} {u:Value} (hj:xs[j]?=some u):w.cell? ⟨g,0+j,none⟩=some u:=by
 have:=h.cells (g:=g) rfl j u hj
 rw [zc0] at this
 exact this
theorem zB0 {w:World} {B:Nat} {e:TypeId} {s n:Nat} {v:Value} {xs:List Value} (h:w.ownsRow B e s v n xs):∃ ao cap,v=.slice ao n cap/\(n=0\/∃ g,ao=some ⟨g,0,none⟩/\g<w.heap.size/\B<=g):=by
 have hh:=h
 rcases h.2 with ⟨rfl,h0⟩ | ⟨g,cap,cur,rfl,hB,_⟩
 ·exact ⟨none,0,by rw [h0],.inl h0⟩
 ·exact ⟨_,cap,rfl,.inr ⟨g,rfl,(hh.lt g rfl).2,hB⟩⟩
theorem yz9 {w:World} {B:Nat} {v:Value} {l:List ByteArray} (h:w.ownsRow B 9 1 v l.length (l.map fun s=>.string s)):SStr w v l:=by
 obtain ⟨ao,cap,rfl,h1⟩:=zB0 h
 refine ⟨zL4 h,ao,cap,rfl,?_⟩
 rcases h1 with h1 | ⟨g,rfl,hg,_⟩
 ·exact .inl (List.eq_nil_of_length_eq_zero h1)
 ·refine .inr ⟨g,0,rfl,hg,fun i hi=>?_⟩
  exact zq9 h (by rw [List.getElem?_map,List.getElem?_eq_getElem hi];rfl)
theorem zL5 {w:World} {B:Nat} {v:Value} {l:List Int} (h:w.ownsRow B 3 1 v l.length (l.map fun s=>.int .i64 s)):SInt w v l:=by
 obtain ⟨ao,cap,rfl,h1⟩:=zB0 h
 refine ⟨zL4 h,ao,cap,rfl,?_⟩
 rcases h1 with h1 | ⟨g,rfl,hg,_⟩
 ·exact .inl (List.eq_nil_of_length_eq_zero h1)
 ·refine .inr ⟨g,0,rfl,hg,fun i hi=>?_⟩
  exact zq9 h (by rw [List.getElem?_map,List.getElem?_eq_getElem hi];rfl)
theorem zp7:∀ {l:List (ByteArray×Int)} {i:Nat} {x:ByteArray×Int},l[i]?=some x->(l.flatMap fun a=>[Value.string a.1,.int .i64 a.2])[i*2]?=some (.string x.1)/\(l.flatMap fun a=>[Value.string a.1,.int .i64 a.2])[i*2+1]?=some (.int .i64 x.2)
 | [],i,x,h=>by simp at h
 | a::l,0,x,h=>by simp at h;subst h;exact ⟨rfl,rfl⟩
 | a::l,i+1,x,h=>by
  rw [List.getElem?_cons_succ] at h
  have:=zp7 h
  rw [List.flatMap_cons,show (i+1)*2=i*2+1+1 by omega]
  exact this
theorem yA0 {w:World} {B:Nat} {v:Value} {l:List (ByteArray×Int)} (h:w.ownsRow B 109 2 v l.length (l.flatMap fun a=>[.string a.1,.int .i64 a.2])):SArr w v l:=by
 obtain ⟨ao,cap,rfl,h1⟩:=zB0 h
 refine ⟨zL4 h,ao,cap,rfl,?_⟩
 rcases h1 with h1 | ⟨g,rfl,hg,_⟩
 ·exact .inl (List.eq_nil_of_length_eq_zero h1)
 ·refine .inr ⟨g,0,rfl,hg,fun i hi=>?_,fun i hi=>?_⟩
  ·exact zq9 h (zp7 (List.getElem?_eq_getElem hi)).1
  ·exact zq9 h (zp7 (List.getElem?_eq_getElem hi)).2
theorem PrIs.prog {w:World} {B:Nat} {u:Nat->Value} {ns:List Nd} {l:Ls} (h:PrIs w B u ns l) (hok:∀ n∈ns,n.Ok):ProgIs w (u 0) (u 1) (u 2) (u 3) (u 4) (u 5) ns l:=by
 refine ⟨NL.snds (B:=B) ?_ hok,yz9 (B:=B) (h 1 (by decide)),yA0 (B:=B) (h 2 (by decide)),zL5 (B:=B) (h 3 (by decide)),zL5 (B:=B) (h 4 (by decide)),zL5 (B:=B) (h 5 (by decide))⟩
 have:=h 0 (by decide)
 have e:xOf ns ns.length l 0=ndL ns:=by unfold xOf;rw [if_pos rfl,List.take_length];rfl
 rw [e] at this
 exact this
theorem yh6 (ns:List Nd) (l:Ls) (hok:∀ n∈ns,n.Ok):goodD ns l=(decide ((programR ns).1=0)&&sameLs l (programR ns).2.2):=by
 unfold goodD;rw [zv8 ns hok]
set_option maxRecDepth 100000 in
theorem yh7 (v0 v1 v2 v3 v4 v5:Value) (ns:List Nd) (l:Ls) (w:World) (h:ProgIs w v0 v1 v2 v3 v4 v5 ns l) :
  Calls Tryz.prog 13 #[.agg #[v0,v1,v2,v3,v4,v5]] w fun e w'=>e=.returned (.bool (goodD ns l))/\Ok w w':=by
 have hok:=h.nodes.1
 rw [yh6 ns l hok]
 obtain ⟨pe,hpe⟩:∃ x,x=(programR ns).1:=⟨_,rfl⟩
 obtain ⟨pi,hpi⟩:∃ x,x=(programR ns).2.1:=⟨_,rfl⟩
 obtain ⟨m,hm⟩:∃ x,x=(programR ns).2.2:=⟨_,rfl⟩
 have HPE:Hid (pe=(programR ns).1):=hpe
 have HPI:Hid (pi=(programR ns).2.1):=hpi
 have HM:Hid (m=(programR ns).2.2):=hm
 rw [<-hpe,<-hm]
 clear hpe hpi hm
 have HOK:Hid (∀ n∈ns,n.Ok):=hok
 obtain ⟨w0,hw0⟩:∃ w0,w0=w.alloc (Obj.cells #[v0,v1,v2,v3,v4,v5] 30):=⟨_,rfl⟩
 have HB0:Hid (Ok w w0):=by unfold Hid;rw [hw0];exact (Ok.refl w).alloc _
 have HA0:Hid (PC w0 w.heap.size v0 v1 v2 v3 v4 v5):=by unfold Hid;rw [hw0];exact PC.new w v0 v1 v2 v3 v4 v5
 have HP0:Hid (ProgIs w0 v0 v1 v2 v3 v4 v5 ns l):=h.below HB0.out
 clear h hok
 go_enter Tryz.func13,Tryz.ntmps13
 go_wp2_with fail
 rw [<-hw0]
 clear hw0
 refine (zG3 v0 ns w0 HP0.out.nodes).mono ?_
 rintro e w1 ⟨u,rfl,hk,h0,h1⟩
 have HB1:Hid (Ok w w1):=HB0.out.step hk
 have HA1:Hid (PC w1 w.heap.size v0 v1 v2 v3 v4 v5):=HA0.out.below hk
 have HP1:Hid (ProgIs w1 v0 v1 v2 v3 v4 v5 ns l):=HP0.out.below hk
 have HU:Hid ((programR ns).1=0->PrIs w1 w0.heap.size u ns (programR ns).2.2):=h0
 have HZ:Hid ((programR ns).1≠0->∀ k,u k=.slice none 0 0):=h1
 clear hk h0 h1
 obtain ⟨z1,c0,c1,c2,c3,c4,c5⟩:=HA1.out
 rw [<-HPE.out,<-HM.out] at HU
 rw [<-HPE.out] at HZ
 rw [<-HPE.out,<-HPI.out]
 by_cases hp:pe=0
 ·have HP:Hid (PrIs w1 w0.heap.size u ns m):=HU.out hp
  subst hp
  clear HU HZ
  obtain ⟨o0,p0,e0⟩:=za0 (HP.out 0 (by decide))
  obtain ⟨o1,p1,e1⟩:=za0 (HP.out 1 (by decide))
  obtain ⟨o2,p2,e2⟩:=za0 (HP.out 2 (by decide))
  obtain ⟨o3,p3,e3⟩:=za0 (HP.out 3 (by decide))
  obtain ⟨o4,p4,e4⟩:=za0 (HP.out 4 (by decide))
  obtain ⟨o5,p5,e5⟩:=za0 (HP.out 5 (by decide))
  have HG:=HP.out.prog HOK.out
  rw [e0,e1,e2,e3,e4,e5] at HG
  have HGH:Hid (ProgIs w1 (.slice o0 (nOf ns.length m 0) p0) (.slice o1 (nOf ns.length m 1) p1) (.slice o2 (nOf ns.length m 2) p2) (.slice o3 (nOf ns.length m 3) p3) (.slice o4 (nOf ns.length m 4) p4) (.slice o5 (nOf ns.length m 5) p5) ns m):=HG
  rw [e0,e1,e2,e3,e4,e5]
  clear e0 e1 e2 e3 e4 e5 HG HP
  go_wp2_with fail
  refine (yh5 _ _ _ _ _ _ _ _ _ _ _ _ ns l m _ (HP1.out.below ((Ok.refl w1).alloc _)) (HGH.out.below ((Ok.refl w1).alloc _))).mono ?_
  rintro e w2 ⟨rfl,hk⟩
  have HB2:Hid (Ok w w2):=(HB1.out.alloc _).step hk
  clear hk
  go_wp2_with fail
  go_ret
  exact ⟨by simp,HB2.out⟩
 ·have hp2:(pe==0)=false:=by rw [beq_eq_false_iff_ne];exact hp
  have hd:decide (pe=0)=false:=decide_eq_false hp
  have hu:=HZ.out hp
  have HD:Hid (decide (pe=0)=false):=hd
  rw [hu 0,hu 1,hu 2,hu 3,hu 4,hu 5]
  clear hp hu HU HZ hd
  go_wp2_with fail
  go_ret
  exact ⟨by rw [HD.out];rfl,HB1.out.alloc _⟩
end
end Go.Proofs.YtenoopfeplalnaaGreatDoor
