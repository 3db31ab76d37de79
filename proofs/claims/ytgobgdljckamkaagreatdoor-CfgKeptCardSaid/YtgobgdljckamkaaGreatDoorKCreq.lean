import Derived.Test.YtgobgdljckamkaaGreatDoorKCrput
namespace Go.Proofs.YtgobgdljckamkaaGreatDoor
section
open Go.RowKit
set_option linter.unusedVariables false
set_option linter.unusedSimpArgs false
def rd0:Rd:=⟨[],[],[],[],[],fun _=>false⟩
def readFrom:List Nd→Rd→Int×Int×Rd
 | [],r=>(0,0,r)
 | n::t,r=>if (putD r r.sy.length n).1=0 then readFrom t (putD r r.sy.length n).2 else ((putD r r.sy.length n).1,r.sy.length,r)
def readD (ns:List Nd) (r:Rd):Int×Int×Rd:=if (shapeD ns).1=0 then readFrom ns r else ((shapeD ns).1,(shapeD ns).2,r)
theorem zv7 (ns:List Nd) (i:Nat) (r:Rd) (h:i<ns.length):readFrom (ns.drop i) r=if (putD r r.sy.length ns[i]).1=0 then readFrom (ns.drop (i+1)) (putD r r.sy.length ns[i]).2 else ((putD r r.sy.length ns[i]).1,r.sy.length,r):=by
 rw [List.drop_eq_getElem_cons h];rfl
theorem yd6 (r:Rd) (i:Nat) (n:Nd) (h:(putD r i n).1=0):(putD r i n).2.sy.length=r.sy.length+1:=by
 revert h
 unfold putD
 simp only
 split
 ·intro h;simp_all
 ·split
  ·intro h;simp_all
  ·split
   ·intro h;simp_all
   ·intro _;simp
theorem zz0:∀ (ns:List Nd) (i:Nat) (st:List Hold) (g:Bool),(runD ns i st g).1=0→∀ n∈ns,1≤n.depth∧n.depth≤24
 | [],_,_,_,_,n,hn=>by simp at hn
 | m::ms,i,st,g,h,n,hn=>by
  rw [runD] at h
  split at h
  ·simp at h
  split at h
  ·simp at h
  rename_i h1 h2
  split at h
  ·simp at h
  rename_i h3
  rcases List.mem_cons.1 hn with rfl | hn
  ·have:putOk st g n.depth n.kind.toNat=true:=by simpa using h2
   unfold putOk at this
   simp only [Bool.and_eq_true,decide_eq_true_eq] at this
   omega
  ·exact zz0 ms _ _ _ h n hn
theorem zm2 (ns:List Nd) (h:(shapeD ns).1=0):ns.length≤300∧∀ n∈ns,1≤n.depth∧n.depth≤24:=by
 unfold shapeD at h
 split at h
 ·simp at h
 ·exact ⟨by omega,zz0 ns 0 [] false h⟩
theorem NodesAt.beside {w w1:World} {b nb o:Nat} {ns:List Nd} (h:NodesAt w nb o ns) (hn:nb≠b) (hb:Beside b w w1):NodesAt w1 nb o ns:=by
 have hc:∀ o,w1.cell? ⟨nb,o,none⟩=w.cell? ⟨nb,o,none⟩:=fun o=>hb.cell hn h.lt
 exact ⟨Nat.lt_of_lt_of_le h.lt hb.low.size,fun i hi=>by rw [hc];exact h.c0 i hi,fun i hi=>by rw [hc];exact h.c1 i hi,fun i hi=>by rw [hc];exact h.c2 i hi,fun i hi=>by rw [hc];exact h.c3 i hi,fun i hi=>by rw [hc];exact h.c4 i hi,fun i hi=>by rw [hc];exact h.c5 i hi⟩
theorem ReadIs.below {w w1:World} {b:Nat} {r:Rd} (h:ReadIs w b r) (hb:Below w.heap.size w w1):ReadIs w1 b r:=⟨h.names.below hb,h.rest.below h.names.lt hb⟩
set_option maxHeartbeats 4000000 in
theorem zY1 (b nb o cap:Nat) (ns:List Nd) (w:World) (hok:∀ n∈ns,n.Ok) (hR:RulesIs w) (hN:NodesAt w nb o ns) (hlen:ns.length≤cap) (hcap:cap≤maxLen) (hnb:nb≠b) (h:ReadIs w b rd0) :
  Calls Tryz.prog 34 #[.pointer (some ⟨b,0,none⟩),.slice (some ⟨nb,o,none⟩) ns.length cap] w fun e w'=>e=.returned (.tuple #[.int .i64 (readD ns rd0).1,.int .i64 (readD ns rd0).2.1])∧Beside b w w'∧((readD ns rd0).1=0→ReadIs w' b (readD ns rd0).2.2):=by
 have HSH:Hid (∀ _:Unit,Calls Tryz.prog 60 #[.slice (some ⟨nb,o,none⟩) ns.length cap] w fun e w'=>e=.returned (.tuple #[.int .i64 (shapeD ns).1,.int .i64 (shapeD ns).2])∧Below w.heap.size w w'):=fun _=>zQ4 nb o cap ns w hok hR hN hlen hcap
 have HN:Hid _:=hN
 have HD:Hid _:=h
 have hl:ns.length≤maxLen:=by omega
 unfold maxLen at hl
 have hln:=hN.lt
 have hlb:=h.names.lt
 clear hR hN h
 by_cases h0:(shapeD ns).1=0
 case neg =>
  have hc1:((shapeD ns).1==0)=false:=by rw [beq_eq_false_iff_ne];exact h0
  have HE:Hid (readD ns rd0=((shapeD ns).1,(shapeD ns).2,rd0)):=by unfold Hid readD;rw [if_neg h0]
  go_enter Tryz.func34,Tryz.ntmps34
  go_wp2_with fail
  refine (HSH.out ()).mono ?_
  rintro e w1 ⟨rfl,hb1⟩
  go_wp2_with fail
  go_ret2
  rw [HE.out]
  exact ⟨rfl,Beside.of hb1,fun h'=>absurd h' h0⟩
 have hc1:((shapeD ns).1==0)=true:=by rw [h0];rfl
 obtain ⟨h300,hdep⟩:=zm2 ns h0
 have HDE:Hid _:=hdep
 have HE:Hid (readD ns rd0=readFrom ns rd0):=by unfold Hid readD;rw [if_pos h0]
 have h300':(ns.length:Int)≤300:=by omega
 clear hdep
 generalize hsh:shapeD ns=sh at *
 obtain ⟨sh1,sh2⟩:=sh
 simp only at h0
 subst h0
 clear hsh hc1
 go_enter Tryz.func34,Tryz.ntmps34
 go_wp2_with fail
 refine (HSH.out ()).mono ?_
 rintro e w1 ⟨rfl,hb1⟩
 have HN1:Hid (NodesAt w1 nb o ns):=HN.out.below hb1
 have HD1:Hid (ReadIs w1 b rd0):=HD.out.below hb1
 have HS1:Hid (Beside b w w1):=Beside.of hb1
 clear HSH HN HD
 go_wp2_with fail
 go_loopw [22] (fun t wr=>∃ (i:Nat) (r:Rd),i≤ns.length∧t=.int .i64 i∧Hid (r.sy.length=i)∧Hid (readFrom ns rd0=readFrom (ns.drop i) r)∧Hid (Beside b w wr)∧Hid (NodesAt wr nb o ns)∧Hid (ReadIs wr b r)) (fun t _=>ns.length-(intOf t).toNat)
 case atStart=>exact ⟨0,rd0,by omega,rfl,rfl,rfl,HS1.out,HN1.out,HD1.out⟩
 case round =>
  obtain ⟨i,r,hi,rfl,hy,hr,HS2,HN2,HD2⟩:=hrel
  by_cases hlt:i<ns.length
  ·have c0:=HN2.out.c0 i hlt
   have c1:=HN2.out.c1 i hlt
   have c2:=HN2.out.c2 i hlt
   have c3:=HN2.out.c3 i hlt
   have c4:=HN2.out.c4 i hlt
   have c5:=HN2.out.c5 i hlt
   have hdi:=HDE.out ns[i] (List.getElem_mem _)
   have HST:Hid _:=hr.out.trans (zv7 ns i r hlt)
   clear hr
   generalize ns[i]=nd at *
   have hlw:=HN2.out.lt
   have hlbw:=HD2.out.names.lt
   have hneb:¬nb=wr.heap.size:=by omega
   obtain ⟨pc,hpc⟩:∃ p,p=putD r r.sy.length nd:=⟨_,rfl⟩
   obtain ⟨code,r2⟩:=pc
   have HPC:Hid _:=hpc.symm
   clear hpc
   have HPUT:Hid (∀ w',ReadIs w' b r→Calls Tryz.prog 61 #[.pointer (some ⟨b,0,none⟩),.int .i64 i,ndVal nd] w' fun e w''=>e=.returned (.int .i64 code)∧Beside b w' w''∧(code=0→ReadIs w'' b r2)):=fun w' h'=>by
    have:=yf9 b nd r w' h' (by have:=hy.out;omega) (by omega) hdi.2 (fun _=>hdi.1)
    rw [HPC.out,hy.out] at this
    exact this
   have HSY:Hid (code=0→r2.sy.length=i+1):=fun hc=>by
    have:=yd6 r r.sy.length nd (by rw [HPC.out];exact hc)
    rw [HPC.out,hy.out] at this
    exact this
   have HST2:Hid (readFrom ns rd0=if code=0 then readFrom (ns.drop (i+1)) r2 else (code,(i:Int),r)):=by
    unfold Hid;rw [HST.out,HPC.out,hy.out]
   have HB0:Hid (∀ o,Below wr.heap.size wr (wr.alloc o)):=fun o=>(Below.refl _ _).alloc (Nat.le_refl _) _
   clear HST HPC hy hdi
   go_wp2_with fail
   refine (HPUT.out _ (HD2.out.below (HB0.out _))).mono ?_
   rintro e w3 ⟨rfl,hs3,hr3⟩
   have HS3:Hid (Beside b w w3):=(HS2.out.trans (Beside.of (HB0.out _))).trans hs3
   have HN3:Hid (NodesAt w3 nb o ns):=(HN2.out.below (HB0.out _)).beside hnb hs3
   have HR3:Hid _:=hr3
   clear hs3 hr3 HPUT c0 c1 c2 c3 c4 c5
   by_cases hcode:code=0
   ·subst hcode
    have HL:Hid (readFrom ns rd0=readFrom (ns.drop (i+1)) r2):=by unfold Hid;rw [HST2.out,if_pos rfl]
    have HSY0:Hid _:=HSY.out rfl
    have HR30:Hid _:=HR3.out rfl
    clear HST2
    go_wp2_with fail
    go_round
    case rel=>exact ⟨i+1,r2,by omega,by go_num,HSY0.out,HL.out,HS3.out,HN3.out,HR30.out⟩
    case measure=>simp [intOf];omega
   ·have hcb:(code==0)=false:=by rw [beq_eq_false_iff_ne];exact hcode
    have HL:Hid (readD ns rd0=(code,(i:Int),r)):=by unfold Hid;rw [HE.out,HST2.out,if_neg hcode]
    clear HST2
    go_wp2_with fail
    go_ret2
    rw [HL.out]
    exact ⟨rfl,HS3.out,fun h'=>absurd h' hcode⟩
  ·have HL:Hid (readD ns rd0=(0,0,r)):=by unfold Hid;rw [HE.out,hr.out,List.drop_of_length_le (by omega)];rfl
   clear hr
   go_wp2_with fail
   go_ret2
   rw [HL.out]
   exact ⟨rfl,HS2.out,fun _=>HD2.out⟩
end
section
open Go.RowKit
set_option linter.unusedVariables false
set_option linter.unusedSimpArgs false
def likeB {α:Type} (f:α→α→Bool):List α→List α→Bool
 | [],[]=>true
 | a::s,b::t=>f a b&&likeB f s t
 | _,_=>false
theorem zh5 {α:Type} (f:α→α→Bool):∀ (l m:List α),l.length≠m.length→likeB f l m=false
 | [],[],h=>absurd rfl h
 | [],_::_,_=>rfl
 | _::_,[],_=>rfl
 | a::s,b::t,h=>by rw [likeB,zh5 f s t (fun e=>h (by simp [e]))];simp
theorem zh1 {α:Type} (f:α→α→Bool) (l m:List α) (k:Nat) (h1:k<l.length) (h2:k<m.length):likeB f (l.drop k) (m.drop k)=(f l[k] m[k]&&likeB f (l.drop (k+1)) (m.drop (k+1))):=by
 rw [List.drop_eq_getElem_cons h1,List.drop_eq_getElem_cons h2];rfl
def eqSt (a b:ByteArray):Bool:=a.toList==b.toList
def eqIn (a b:Int):Bool:=a==b
def eqAr (a b:ByteArray×Int):Bool:=a.1.toList==b.1.toList&&a.2==b.2
def SStr (w:World) (v:Value) (l:List ByteArray):Prop:=l.length≤maxLen∧∃ ao cap,v=.slice ao l.length cap∧(l=[]∨∃ b o,ao=some ⟨b,o,none⟩∧StrsAt w b o l)
set_option maxHeartbeats 1000000 in
theorem zJ9 (v1 v2:Value) (l1 l2:List ByteArray) (w:World) (h1:SStr w v1 l1) (h2:SStr w v2 l2) :
  Calls Tryz.prog 62 #[v1,v2] w fun e w'=>e=.returned (.bool (likeB eqSt l1 l2))∧Below w.heap.size w w':=by
 obtain ⟨z1,ao1,cap1,rfl,k1⟩:=h1
 obtain ⟨z2,ao2,cap2,rfl,k2⟩:=h2
 unfold maxLen at z1 z2
 by_cases hl:l1.length=l2.length
 case neg =>
  have HE:Hid (likeB eqSt l1 l2=false):=zh5 _ _ _ hl
  have hl2:((l1.length:Int)==(l2.length:Int))=false:=by rw [beq_eq_false_iff_ne];omega
  clear k1 k2
  go_enter Tryz.func62,Tryz.ntmps62
  go_wp2_with fail
  go_ret
  exact ⟨za2 HE.out.symm,Below.refl _ _⟩
 have HK1:Hid _:=k1
 have HK2:Hid _:=k2
 have HL:Hid _:=hl
 obtain ⟨n,hn⟩:∃ n,l2.length=n:=⟨_,rfl⟩
 rw [hl,hn]
 rw [hn] at HL
 have HL2:Hid _:=hn
 have hz:n≤9223372036854775807:=by rw [hn] at z2;exact z2
 clear k1 k2 hl hn z1 z2
 go_enter Tryz.func62,Tryz.ntmps62
 go_wp2_with fail
 go_loopw [13] (fun t wr=>∃ k:Nat,k≤n∧t=.int .i64 k∧Hid (likeB eqSt l1 l2=likeB eqSt (l1.drop k) (l2.drop k))∧Hid (Below w.heap.size w wr)) (fun t _=>n-(intOf t).toNat)
 case atStart=>exact ⟨0,by omega,rfl,rfl,Below.refl _ _⟩
 case round =>
  obtain ⟨k,hk,rfl,hr,HB⟩:=hrel
  by_cases hlt:k<n
  ·obtain ⟨b1,o1,rfl,s1⟩:=HK1.out.resolve_left (fun e=>by have:=HL.out;rw [e] at this;simp at this;omega)
   obtain ⟨b2,o2,rfl,s2⟩:=HK2.out.resolve_left (fun e=>by have:=HL2.out;rw [e] at this;simp at this;omega)
   have i1:k<l1.length:=by have:=HL.out;omega
   have i2:k<l2.length:=by have:=HL2.out;omega
   have c1:=(s1.below HB.out).c k i1
   have c2:=(s2.below HB.out).c k i2
   rw [zh1 _ l1 l2 k i1 i2] at hr
   generalize l1[k]=x at *
   generalize l2[k]=y at *
   have lt1:=s1.lt
   have lt2:=s2.lt
   clear s1 s2
   cases hq:(eqSt x y)
   ·have HE:Hid (likeB eqSt l1 l2=false):=by unfold Hid;rw [hr.out,hq];rfl
    clear hr
    unfold eqSt at hq
    go_wp2_with fail
    go_quiet (fail)
    go_wp2_with fail
    go_ret
    exact ⟨za2 HE.out.symm,below_drewN HB.out _⟩
   ·have HE:Hid (likeB eqSt l1 l2=likeB eqSt (l1.drop (k+1)) (l2.drop (k+1))):=by unfold Hid;rw [hr.out,hq];rfl
    clear hr
    unfold eqSt at hq
    go_wp2_with fail
    go_quiet (fail)
    go_wp2_with fail
    go_roundw
    case rel=>exact ⟨k+1,by omega,by go_num,HE,below_drewN HB.out _⟩
    case measure=>simp [intOf];omega
  ·have HE:Hid (likeB eqSt l1 l2=true):=by
    unfold Hid;rw [hr.out,List.drop_of_length_le (by have:=HL.out;omega),List.drop_of_length_le (by have:=HL2.out;omega)];rfl
   clear hr
   go_wp2_with fail
   go_ret
   exact ⟨za2 HE.out.symm,HB.out⟩
structure IntsAt (w:World) (b o:Nat) (l:List Int):Prop where
 lt:b<w.heap.size
 c:∀ (i:Nat) (h:i<l.length),w.cell? ⟨b,o+i,none⟩=some (.int .i64 l[i])
theorem IntsAt.below {w w1:World} {b o:Nat} {l:List Int} (h:IntsAt w b o l) (hb:Below w.heap.size w w1):IntsAt w1 b o l :=
 ⟨Nat.lt_of_lt_of_le h.lt hb.size,fun i hi=>(hb.cell (p:=⟨b,o+i,none⟩) h.lt).trans (h.c i hi)⟩
def SInt (w:World) (v:Value) (l:List Int):Prop:=l.length≤maxLen∧∃ ao cap,v=.slice ao l.length cap∧(l=[]∨∃ b o,ao=some ⟨b,o,none⟩∧IntsAt w b o l)
set_option maxHeartbeats 1000000 in
theorem zo2 (v1 v2:Value) (l1 l2:List Int) (w:World) (h1:SInt w v1 l1) (h2:SInt w v2 l2) :
  Calls Tryz.prog 64 #[v1,v2] w fun e w'=>e=.returned (.bool (likeB eqIn l1 l2))∧Below w.heap.size w w':=by
 obtain ⟨z1,ao1,cap1,rfl,k1⟩:=h1
 obtain ⟨z2,ao2,cap2,rfl,k2⟩:=h2
 unfold maxLen at z1 z2
 by_cases hl:l1.length=l2.length
 case neg =>
  have HE:Hid (likeB eqIn l1 l2=false):=zh5 _ _ _ hl
  have hl2:((l1.length:Int)==(l2.length:Int))=false:=by rw [beq_eq_false_iff_ne];omega
  clear k1 k2
  go_enter Tryz.func64,Tryz.ntmps64
  go_wp2_with fail
  go_ret
  exact ⟨za2 HE.out.symm,Below.refl _ _⟩
 have HK1:Hid _:=k1
 have HK2:Hid _:=k2
 have HL:Hid _:=hl
 obtain ⟨n,hn⟩:∃ n,l2.length=n:=⟨_,rfl⟩
 rw [hl,hn]
 rw [hn] at HL
 have HL2:Hid _:=hn
 have hz:n≤9223372036854775807:=by rw [hn] at z2;exact z2
 clear k1 k2 hl hn z1 z2
 go_enter Tryz.func64,Tryz.ntmps64
 go_wp2_with fail
 go_loopw [13] (fun t wr=>∃ k:Nat,k≤n∧t=.int .i64 k∧Hid (likeB eqIn l1 l2=likeB eqIn (l1.drop k) (l2.drop k))∧Hid (Below w.heap.size w wr)) (fun t _=>n-(intOf t).toNat)
 case atStart=>exact ⟨0,by omega,rfl,rfl,Below.refl _ _⟩
 case round =>
  obtain ⟨k,hk,rfl,hr,HB⟩:=hrel
  by_cases hlt:k<n
  ·obtain ⟨b1,o1,rfl,s1⟩:=HK1.out.resolve_left (fun e=>by have:=HL.out;rw [e] at this;simp at this;omega)
   obtain ⟨b2,o2,rfl,s2⟩:=HK2.out.resolve_left (fun e=>by have:=HL2.out;rw [e] at this;simp at this;omega)
   have i1:k<l1.length:=by have:=HL.out;omega
   have i2:k<l2.length:=by have:=HL2.out;omega
   have c1:=(s1.below HB.out).c k i1
   have c2:=(s2.below HB.out).c k i2
   rw [zh1 _ l1 l2 k i1 i2] at hr
   generalize l1[k]=x at *
   generalize l2[k]=y at *
   have lt1:=s1.lt
   have lt2:=s2.lt
   clear s1 s2
   cases hq:(eqIn x y)
   ·have HE:Hid (likeB eqIn l1 l2=false):=by unfold Hid;rw [hr.out,hq];rfl
    clear hr
    unfold eqIn at hq
    go_wp2_with fail
    go_quiet (fail)
    go_wp2_with fail
    go_ret
    exact ⟨za2 HE.out.symm,below_drewN HB.out _⟩
   ·have HE:Hid (likeB eqIn l1 l2=likeB eqIn (l1.drop (k+1)) (l2.drop (k+1))):=by unfold Hid;rw [hr.out,hq];rfl
    clear hr
    unfold eqIn at hq
    go_wp2_with fail
    go_quiet (fail)
    go_wp2_with fail
    go_roundw
    case rel=>exact ⟨k+1,by omega,by go_num,HE,below_drewN HB.out _⟩
    case measure=>simp [intOf];omega
  ·have HE:Hid (likeB eqIn l1 l2=true):=by
    unfold Hid;rw [hr.out,List.drop_of_length_le (by have:=HL.out;omega),List.drop_of_length_le (by have:=HL2.out;omega)];rfl
   clear hr
   go_wp2_with fail
   go_ret
   exact ⟨za2 HE.out.symm,HB.out⟩
theorem eq76 (a c:ByteArray) (b d:Int) (w:World):(Op.equalIn 10000 56 (.agg #[.string a,.int .i64 b]) (.agg #[.string c,.int .i64 d])).run Tryz.prog w=.ok (a.toList==c.toList&&b==d) w:=by
 rw [show (10000:Nat)=9999+1 from rfl,run_equalIn_agg w 9999 56 _ _ (by kernel_rfl) (by kernel_rfl)]
 simp only [Program.fieldsOf,Tryz.underlying56]
 go_simp
 by_cases h1:a.toList=c.toList<;>by_cases h2:b=d<;>simp [h1,h2]
theorem gu76:Tryz.prog.eqGuardType Tryz.prog.depth 56=false:=by kernel_rfl
structure ArsAt (w:World) (b o:Nat) (l:List (ByteArray×Int)):Prop where
 lt:b<w.heap.size
 c:∀ (i:Nat) (h:i<l.length),w.cell? ⟨b,o+i*2,none⟩=some (.string l[i].1)
 d:∀ (i:Nat) (h:i<l.length),w.cell? ⟨b,o+i*2+1,none⟩=some (.int .i64 l[i].2)
theorem ArsAt.below {w w1:World} {b o:Nat} {l:List (ByteArray×Int)} (h:ArsAt w b o l) (hb:Below w.heap.size w w1):ArsAt w1 b o l :=
 ⟨Nat.lt_of_lt_of_le h.lt hb.size,fun i hi=>(hb.cell (p:=⟨b,o+i*2,none⟩) h.lt).trans (h.c i hi),fun i hi=>(hb.cell (p:=⟨b,o+i*2+1,none⟩) h.lt).trans (h.d i hi)⟩
def SArr (w:World) (v:Value) (l:List (ByteArray×Int)):Prop:=l.length≤maxLen∧∃ ao cap,v=.slice ao l.length cap∧(l=[]∨∃ b o,ao=some ⟨b,o,none⟩∧ArsAt w b o l)
set_option maxHeartbeats 1000000 in
theorem zK0 (v1 v2:Value) (l1 l2:List (ByteArray×Int)) (w:World) (h1:SArr w v1 l1) (h2:SArr w v2 l2) :
  Calls Tryz.prog 63 #[v1,v2] w fun e w'=>e=.returned (.bool (likeB eqAr l1 l2))∧Below w.heap.size w w':=by
 obtain ⟨z1,ao1,cap1,rfl,k1⟩:=h1
 obtain ⟨z2,ao2,cap2,rfl,k2⟩:=h2
 unfold maxLen at z1 z2
 by_cases hl:l1.length=l2.length
 case neg =>
  have HE:Hid (likeB eqAr l1 l2=false):=zh5 _ _ _ hl
  have hl2:((l1.length:Int)==(l2.length:Int))=false:=by rw [beq_eq_false_iff_ne];omega
  clear k1 k2
  go_enter Tryz.func63,Tryz.ntmps63
  go_wp2_with fail
  go_ret
  exact ⟨za2 HE.out.symm,Below.refl _ _⟩
 have HK1:Hid _:=k1
 have HK2:Hid _:=k2
 have HL:Hid _:=hl
 obtain ⟨n,hn⟩:∃ n,l2.length=n:=⟨_,rfl⟩
 rw [hl,hn]
 rw [hn] at HL
 have HL2:Hid _:=hn
 have hz:n≤9223372036854775807:=by rw [hn] at z2;exact z2
 clear k1 k2 hl hn z1 z2
 go_enter Tryz.func63,Tryz.ntmps63
 go_wp2_with fail
 go_loopw [13] (fun t wr=>∃ k:Nat,k≤n∧t=.int .i64 k∧Hid (likeB eqAr l1 l2=likeB eqAr (l1.drop k) (l2.drop k))∧Hid (Below w.heap.size w wr)) (fun t _=>n-(intOf t).toNat)
 case atStart=>exact ⟨0,by omega,rfl,rfl,Below.refl _ _⟩
 case round =>
  obtain ⟨k,hk,rfl,hr,HB⟩:=hrel
  by_cases hlt:k<n
  ·obtain ⟨b1,o1,rfl,s1⟩:=HK1.out.resolve_left (fun e=>by have:=HL.out;rw [e] at this;simp at this;omega)
   obtain ⟨b2,o2,rfl,s2⟩:=HK2.out.resolve_left (fun e=>by have:=HL2.out;rw [e] at this;simp at this;omega)
   have i1:k<l1.length:=by have:=HL.out;omega
   have i2:k<l2.length:=by have:=HL2.out;omega
   have c1:=(s1.below HB.out).c k i1
   have c2:=(s2.below HB.out).c k i2
   have d1:=(s1.below HB.out).d k i1
   have d2:=(s2.below HB.out).d k i2
   rw [zh1 _ l1 l2 k i1 i2] at hr
   generalize l1[k]=x at *
   generalize l2[k]=y at *
   have lt1:=s1.lt
   have lt2:=s2.lt
   clear s1 s2
   cases hq:(eqAr x y)
   ·have HE:Hid (likeB eqAr l1 l2=false):=by unfold Hid;rw [hr.out,hq];rfl
    clear hr
    unfold eqAr at hq
    have g76:=gu76
    have e76:∀ w,(Op.equalIn 10000 56 (.agg #[.string x.1,.int .i64 x.2]) (.agg #[.string y.1,.int .i64 y.2])).run Tryz.prog w=.ok false w:=fun w=>by rw [eq76,hq]
    go_wp2_with fail
    go_quiet (fail)
    go_wp2_with fail
    go_ret
    exact ⟨za2 HE.out.symm,below_drewN HB.out _⟩
   ·have HE:Hid (likeB eqAr l1 l2=likeB eqAr (l1.drop (k+1)) (l2.drop (k+1))):=by unfold Hid;rw [hr.out,hq];rfl
    clear hr
    unfold eqAr at hq
    have g76:=gu76
    have e76:∀ w,(Op.equalIn 10000 56 (.agg #[.string x.1,.int .i64 x.2]) (.agg #[.string y.1,.int .i64 y.2])).run Tryz.prog w=.ok true w:=fun w=>by rw [eq76,hq]
    go_wp2_with fail
    go_quiet (fail)
    go_wp2_with fail
    go_roundw
    case rel=>exact ⟨k+1,by omega,by go_num,HE,below_drewN HB.out _⟩
    case measure=>simp [intOf];omega
  ·have HE:Hid (likeB eqAr l1 l2=true):=by
    unfold Hid;rw [hr.out,List.drop_of_length_le (by have:=HL.out;omega),List.drop_of_length_le (by have:=HL2.out;omega)];rfl
   clear hr
   go_wp2_with fail
   go_ret
   exact ⟨za2 HE.out.symm,HB.out⟩
end
end Go.Proofs.YtgobgdljckamkaaGreatDoor
