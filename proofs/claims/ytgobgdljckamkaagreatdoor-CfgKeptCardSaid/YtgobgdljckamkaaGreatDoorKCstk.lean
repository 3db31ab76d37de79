import Derived.Test.YtgobgdljckamkaaGreatDoorKCput
namespace Go.Proofs.YtgobgdljckamkaaGreatDoor
section
set_option linter.unusedVariables false
set_option linter.unusedSimpArgs false
open Go.RowKit
structure Nd.Ok (n:Nd):Prop where
 name:n.name.size≤maxLen
 lo : -9223372036854775808≤n.depth
 hi:n.depth≤9223372036854775807
 num:n.num≤9223372036854775807
structure NodesAt (w:World) (b o:Nat) (ns:List Nd):Prop where
 lt:b<w.heap.size
 c0:∀ (i:Nat) (h:i<ns.length),w.cell? ⟨b,o+i*6,none⟩=some (.int .i64 ns[i].depth)
 c1:∀ (i:Nat) (h:i<ns.length),w.cell? ⟨b,o+i*6+1,none⟩=some (.int .i64 ns[i].kind)
 c2:∀ (i:Nat) (h:i<ns.length),w.cell? ⟨b,o+i*6+2,none⟩=some (.string ns[i].name)
 c3:∀ (i:Nat) (h:i<ns.length),w.cell? ⟨b,o+i*6+3,none⟩=some (.int .i64 ns[i].num)
 c4:∀ (i:Nat) (h:i<ns.length),w.cell? ⟨b,o+i*6+4,none⟩=some (.int .i64 ns[i].op)
 c5:∀ (i:Nat) (h:i<ns.length),w.cell? ⟨b,o+i*6+5,none⟩=some (.int .i64 ns[i].pos)
theorem NodesAt.below {w w1:World} {b o:Nat} {ns:List Nd} (h:NodesAt w b o ns) (hb:Below w.heap.size w w1):NodesAt w1 b o ns:=by
 have hc:∀ o,w1.cell? ⟨b,o,none⟩=w.cell? ⟨b,o,none⟩:=fun o=>hb.cell (p:=⟨b,o,none⟩) h.lt
 have hz:=hb.size
 have:=h.lt
 exact ⟨by omega,fun i hi=>by rw [hc];exact h.c0 i hi,fun i hi=>by rw [hc];exact h.c1 i hi,fun i hi=>by rw [hc];exact h.c2 i hi,fun i hi=>by rw [hc];exact h.c3 i hi,fun i hi=>by rw [hc];exact h.c4 i hi,fun i hi=>by rw [hc];exact h.c5 i hi⟩
def fitN (n:Nd):Bool:=decide (0≤n.kind)&&decide (n.kind≤15)&&fitB n.kind.toNat n.name.toList n.num n.op
def begunD (g:Bool) (n:Nd):Bool:=if n.depth=1 then g||rSort n.kind.toNat==2 else g
def runD:List Nd→Nat→List Hold→Bool→Int×Int
 | [],i,st,_=>if wantsB st then (33,i) else (0,0)
 | n::ns,i,st,g =>
  if fitN n=false then (33,i) else if putOk st g n.depth n.kind.toNat=false then (33,i) else if 24<n.depth then (31,i)
  else runD ns (i+1) (pathPut st (n.depth-1).toNat n.kind.toNat) (begunD g n)
def stepD (n:Nd) (rest:List Nd) (i:Nat) (st:List Hold) (g:Bool):Int×Int :=
 if fitN n=false then (33,i) else if putOk st g n.depth n.kind.toNat=false then (33,i) else if 24<n.depth then (31,i)
 else runD rest (i+1) (pathPut st (n.depth-1).toNat n.kind.toNat) (begunD g n)
theorem zQ3 (ns:List Nd) (i:Nat) (st:List Hold) (g:Bool) (h:i<ns.length):runD (ns.drop i) i st g=stepD ns[i] (ns.drop (i+1)) i st g:=by
 rw [List.drop_eq_getElem_cons h];rfl
def shapeD (ns:List Nd):Int×Int:=if 300<ns.length then (32,300) else runD ns 0 [] false
theorem Nat.toInt {k:Int} (h:0≤k):k=(k.toNat:Int):=(Int.toNat_of_nonneg h).symm
theorem zY5 (n:Nd) (w:World) (hn:n.Ok) (hR:RulesIs w) :
  Calls Tryz.prog 90 #[.agg #[.int .i64 n.depth,.int .i64 n.kind,.string n.name,.int .i64 n.num,.int .i64 n.op,.int .i64 n.pos]] w fun e w'=>e=.returned (.bool (fitN n))∧Below w.heap.size w w':=by
 by_cases h:n.kind<0∨15<n.kind
 ·have e:fitN n=false:=by
   unfold fitN
   rcases h with h | h
   ·rw [decide_eq_false (by omega)];rfl
   ·rw [decide_eq_false (by omega:¬n.kind≤15)];simp
  rw [e]
  exact yf4 _ _ _ _ _ _ _ h
 ·have e:fitN n=fitB n.kind.toNat n.name.toList n.num n.op:=by
   unfold fitN
   rw [decide_eq_true (by omega:0≤n.kind),decide_eq_true (by omega:n.kind≤15)];rfl
  rw [e]
  have hk:n.kind=(n.kind.toNat:Int):=Nat.toInt (by omega)
  have:=yf5 n.depth n.num n.op n.pos n.kind.toNat n.name w (by omega) hn.name hR
  rw [←hk] at this
  exact this
theorem zh8 {n:Nd} (h:fitN n=true):0≤n.kind∧n.kind≤15:=by
 unfold fitN at h
 simp at h
 exact ⟨h.1.1,h.1.2⟩
theorem yg0 (b:Nat) (n:Nd) (st:List Hold) (g:Bool) (w:World) (hn:n.Ok) (hf:fitN n=true) (hl:st.length≤24) (hk:∀ h∈st,h.1<16∧(h.1=9∨h.2≤3)) (hR:RulesIs w) (hP:PathIs w b st g) (hno:putOk st g n.depth n.kind.toNat=false) :
  Calls Tryz.prog 91 #[.pointer (some ⟨b,0,none⟩),.agg #[.int .i64 n.depth,.int .i64 n.kind,.string n.name,.int .i64 n.num,.int .i64 n.op,.int .i64 n.pos]] w fun e w'=>e=.returned (.bool false)∧Below w.heap.size w w':=by
 obtain ⟨k0,k1⟩:=zh8 hf
 have hk':n.kind=(n.kind.toNat:Int):=Nat.toInt (by omega)
 have:=yj2 b n.depth n.num n.op n.pos n.kind.toNat n.name st g w hn.lo hn.hi hl (by omega) hk hR hP hno
 rw [←hk'] at this
 exact this
theorem zY6 (b:Nat) (n:Nd) (st:List Hold) (g:Bool) (w:World) (hf:fitN n=true) (hl:st.length≤24) (hk:∀ h∈st,h.1<16∧(h.1=9∨h.2≤3)) (hd:∀ h∈st,h.2≤400) (hR:RulesIs w) (hP:PathIs w b st g) (hyes:putOk st g n.depth n.kind.toNat=true) :
  Calls Tryz.prog 91 #[.pointer (some ⟨b,0,none⟩),.agg #[.int .i64 n.depth,.int .i64 n.kind,.string n.name,.int .i64 n.num,.int .i64 n.op,.int .i64 n.pos]] w fun e w'=>e=.returned (.bool true)∧Beside b w w'∧PathIs w' b (pathPut st (n.depth-1).toNat n.kind.toNat) (begunD g n):=by
 obtain ⟨k0,k1⟩:=zh8 hf
 have hk':n.kind=(n.kind.toNat:Int):=Nat.toInt (by omega)
 unfold putOk at hyes
 simp only [Bool.and_eq_true,decide_eq_true_eq,Bool.not_eq_true'] at hyes
 obtain ⟨⟨⟨a1,a2⟩,a3⟩,a4⟩:=hyes
 have hd':n.depth=((n.depth-1).toNat:Int)+1:=by omega
 by_cases h0:(n.depth-1).toNat=0
 ·have h1:n.depth=1:=by omega
  rw [h0] at a3 a4 ⊢
  rw [List.drop_zero] at a3
  have e:begunD g n=(g||rSort n.kind.toNat==2):=by unfold begunD;rw [if_pos h1]
  have:=yf7 b n.num n.op n.pos n.kind.toNat n.name st g w hl (by omega) hk hR hP a3 a4
  rw [←hk',←h1,←e] at this
  rw [h1] at this ⊢
  exact this
 ·have e:begunD g n=g:=by unfold begunD;rw [if_neg (by omega)]
  have:=yf6 b (n.depth-1).toNat n.num n.op n.pos n.kind.toNat n.name st g w hl (by omega) (by omega) hk hd hR hP a3 a4 (by omega)
  rw [←hk',←hd'] at this
  rw [e]
  exact this
theorem zz6 {k:Nat} (h:k<16):1≤rSort k:=by
 have:∀ j:Fin 16,1≤rSort j:=by decide
 exact this ⟨k,h⟩
def HoldOk (i:Nat) (h:Hold):Prop:=h.1<16∧(h.1=9∨h.2≤3)∧h.2≤i
theorem zY7 {st:List Hold} {g:Bool} {d:Int} {k i:Nat} (hk:k<16) (h:∀ x∈st,HoldOk i x) (hp:putOk st g d k=true):∀ x∈pathPut st (d-1).toNat k,HoldOk (i+1) x:=by
 unfold putOk at hp
 simp only [Bool.and_eq_true,decide_eq_true_eq,Bool.not_eq_true'] at hp
 obtain ⟨⟨⟨a1,a2⟩,a3⟩,a4⟩:=hp
 generalize hn:(d-1).toNat=n at *
 have hnl:n≤st.length:=by omega
 intro x hx
 unfold pathPut at hx
 by_cases h0:n=0
 ·rw [if_pos h0] at hx
  simp at hx
  subst hx
  exact ⟨hk,Or.inr (by simp),by simp⟩
 ·rw [if_neg h0] at hx
  have hi:n-1<st.length:=by omega
  have e:st.getD (n-1) (0,0)=st[n-1]:=by rw [List.getD_eq_getElem?_getD,List.getElem?_eq_getElem hi];rfl
  rw [e] at hx
  unfold takesB at a4
  rw [if_neg h0,e,beq_iff_eq] at a4
  have hm:=h st[n-1] (List.getElem_mem _)
  rcases List.mem_append.1 hx with hx | hx
  ·have:=h x (List.mem_of_mem_take hx)
   exact ⟨this.1,this.2.1,by have:=this.2.2;omega⟩
  ·simp only [List.mem_cons,List.not_mem_nil,or_false] at hx
   rcases hx with rfl | rfl
   ·refine ⟨hm.1,?_,by have:=hm.2.2;simp;omega⟩
    by_cases h9:st[n-1].1=9
    ·exact Or.inl h9
    ·refine Or.inr ?_
     have hp:=zz6 hk
     rw [←a4] at hp
     unfold nextD at hp
     rw [if_neg h9] at hp
     show st[n-1].2+1≤3
     split at hp<;>rename_i q0
     ·omega
     split at hp<;>rename_i q1
     ·omega
     split at hp<;>rename_i q2
     ·omega
     ·omega
   ·exact ⟨hk,Or.inr (by simp),by simp⟩
theorem yg1 {st:List Hold} {g:Bool} {d:Int} {k:Nat} (hp:putOk st g d k=true) (hd:d≤24):(pathPut st (d-1).toNat k).length≤24:=by
 unfold putOk at hp
 simp only [Bool.and_eq_true,decide_eq_true_eq,Bool.not_eq_true'] at hp
 obtain ⟨⟨⟨a1,a2⟩,a3⟩,a4⟩:=hp
 unfold pathPut
 split
 ·simp
 ·rw [List.length_append,List.length_take];simp;omega
theorem tup2 {a b a' b':Int} (h1:a=a') (h2:b=b'):Ending.returned (.tuple #[.int .i64 a,.int .i64 b])=.returned (.tuple #[.int .i64 a',.int .i64 b']):=by rw [h1,h2]
def zeros52:Array Value:=#[.int .i64 0,.int .i64 0,.int .i64 0,.int .i64 0,.int .i64 0,.int .i64 0,.int .i64 0,.int .i64 0,.int .i64 0,.int .i64 0,.int .i64 0,.int .i64 0,.int .i64 0,.int .i64 0,.int .i64 0,.int .i64 0,.int .i64 0,.int .i64 0,.int .i64 0,.int .i64 0,.int .i64 0,.int .i64 0,.int .i64 0,.int .i64 0,.int .i64 0,.int .i64 0,.int .i64 0,.int .i64 0,.int .i64 0,.int .i64 0,.int .i64 0,.int .i64 0,.int .i64 0,.int .i64 0,.int .i64 0,.int .i64 0,.int .i64 0,.int .i64 0,.int .i64 0,.int .i64 0,.int .i64 0,.int .i64 0,.int .i64 0,.int .i64 0,.int .i64 0,.int .i64 0,.int .i64 0,.int .i64 0,.int .i64 0,.int .i64 0,.int .i64 0,.bool false]
theorem zG9 (w:World):PathIs (w.alloc (.cells zeros52 151)) w.heap.size [] false:=by
 have hc:∀ i,(w.alloc (.cells zeros52 151)).cell? ⟨w.heap.size,i,none⟩=zeros52[i]?:=fun i=>World.cell?_alloc_at _ _ _ _ rfl
 refine ⟨by simp,by simp,by rw [hc];rfl,by rw [hc];rfl,fun i h=>absurd h (by simp),fun i h=>absurd h (by simp),fun i h=>?_,fun i=>World.frozen?_alloc_at _ _ _ _ rfl⟩
 rw [hc]
 exact ⟨_,Array.getElem?_eq_getElem (show i<zeros52.size from h)⟩
set_option maxHeartbeats 2000000 in
theorem zQ4 (b o cap:Nat) (ns:List Nd) (w:World) (hok:∀ n∈ns,n.Ok) (hR:RulesIs w) (hN:NodesAt w b o ns) (hlen:ns.length≤cap) (hcap:cap≤maxLen) :
  Calls Tryz.prog 60 #[.slice (some ⟨b,o,none⟩) ns.length cap] w fun e w'=>e=.returned (.tuple #[.int .i64 (shapeD ns).1,.int .i64 (shapeD ns).2])∧Below w.heap.size w w':=by
 have hl:ns.length≤maxLen:=by omega
 unfold maxLen at hl
 by_cases h300:300<(ns.length:Int)
 ·have HF:Hid (shapeD ns=(32,300)):=by unfold Hid shapeD;rw [if_pos (by omega)]
  clear hok hR hN
  go_enter Tryz.func60,Tryz.ntmps60
  go_wp2
  go_ret2
  exact ⟨tup2 (by rw [HF.out]) (by rw [HF.out]),Below.refl _ _⟩
 ·have HF:Hid (shapeD ns=runD ns 0 [] false):=by unfold Hid shapeD;rw [if_neg (by omega)]
  have h300':(ns.length:Int)≤300:=by omega
  have hltN:=hN.lt
  have HN:Hid _:=hN
  have HR:Hid _:=hR
  have HO:Hid _:=hok
  clear hok hR hN h300
  go_enter Tryz.func60,Tryz.ntmps60
  go_wp2_with fail
  go_loopw [12] (fun t wr=>∃ (i:Nat) (st:List Hold) (g:Bool),i≤ns.length∧t=.int .i64 i∧Hid (runD ns 0 [] false=runD (ns.drop i) i st g)∧Hid (Below w.heap.size w wr)∧Hid (PathIs wr w.heap.size st g)∧st.length≤24∧Hid (∀ h∈st,HoldOk i h)) (fun t _=>ns.length-(intOf t).toNat)
  case atStart=>exact ⟨0,[],false,by omega,rfl,rfl,(Below.refl _ _).alloc (Nat.le_refl _) _,zG9 w,by simp,fun h hh=>absurd hh (by simp)⟩
  case round =>
   obtain ⟨i,st,g,hi,rfl,hr,HB,HP,hl24,HK⟩:=hrel
   have hz:=HB.out.size
   by_cases hlt:i<ns.length
   ·have HN2:=HN.out.below HB.out
    have HR2:=HR.out.below HB.out
    have c0:=HN2.c0 i hlt
    have c1:=HN2.c1 i hlt
    have c2:=HN2.c2 i hlt
    have c3:=HN2.c3 i hlt
    have c4:=HN2.c4 i hlt
    have c5:=HN2.c5 i hlt
    have HOi:Hid _:=HO.out ns[i] (List.getElem_mem _)
    have HSTEP:Hid (runD ns 0 [] false=stepD ns[i] (ns.drop (i+1)) i st g):=by
     unfold Hid;rw [hr.out,zQ3 ns i st g hlt]
    have HR2':Hid _:=HR2
    clear hr HN2 HR2
    generalize ns[i]=nd at *
    have hneb:¬b=wr.heap.size:=by omega
    have nwr:¬wr.heap.size=w.heap.size:=by have:=HP.out.lt;omega
    have hlp:=HP.out.lt
    go_wp2_with fail
    have hB1:Below wr.heap.size wr (wr.alloc (.cells #[.int .i64 nd.depth,.int .i64 nd.kind,.string nd.name,.int .i64 nd.num,.int .i64 nd.op,.int .i64 nd.pos] 31)):=(Below.refl _ _).alloc (Nat.le_refl _) _
    have HB1:Hid _:=hB1
    clear hB1
    refine (zY5 nd _ HOi.out (HR2'.out.below HB1.out)).mono ?_
    rintro e w1 ⟨rfl,hb1⟩
    have HB2:Hid (Below wr.heap.size wr w1):=HB1.out.trans (hb1.mono (by simp))
    cases hf:fitN nd
    ·have HE:Hid (runD ns 0 [] false=(33,(i:Int))):=by
      unfold Hid;rw [HSTEP.out];unfold stepD;rw [if_pos hf]
     clear hb1
     go_wp2_with fail
     go_ret2
     exact ⟨tup2 (by rw [HF.out,HE.out]) (by rw [HF.out,HE.out]),HB.out.trans (HB2.out.mono hz)⟩
    ·obtain ⟨hc1,hf1⟩:=bcell hb1
     have hz1:wr.heap.size+1≤w1.heap.size:=by have:=hb1.size;simp at this;omega
     have HR3:Hid _:=HR2'.out.below HB2.out
     have HP3:Hid _:=HP.out.below HB2.out
     have HKK:Hid (∀ h∈st,h.1<16∧(h.1=9∨h.2≤3)):=fun h hh=>⟨(HK.out h hh).1,(HK.out h hh).2.1⟩
     have HKD:Hid (∀ h∈st,h.2≤400):=fun h hh=>by have:=(HK.out h hh).2.2;omega
     clear hb1
     go_wp2_with fail
     cases hp:putOk st g nd.depth nd.kind.toNat
     ·have HE:Hid (runD ns 0 [] false=(33,(i:Int))):=by
       unfold Hid;rw [HSTEP.out];unfold stepD;rw [if_neg (by rw [hf];simp),if_pos hp]
      refine (yg0 _ nd st g _ HOi.out hf hl24 HKK.out HR3.out HP3.out hp).mono ?_
      rintro e w2 ⟨rfl,hb2⟩
      go_wp2_with fail
      go_ret2
      exact ⟨tup2 (by rw [HF.out,HE.out]) (by rw [HF.out,HE.out]),(HB.out.trans (HB2.out.mono hz)).trans (hb2.mono (by omega))⟩
     ·refine (zY6 _ nd st g _ hf hl24 HKK.out HKD.out HR3.out HP3.out hp).mono ?_
      rintro e w2 ⟨rfl,hb2,hp2⟩
      have hz2:=hb2.low.size
      have d0:w2.cell? ⟨wr.heap.size,0,none⟩=some (.int .i64 nd.depth):=by rw [hb2.cell nwr (by omega),hc1 _ _ (by simp)];simp [go_sem]
      have HBB:Hid (Below w.heap.size w w2):=hb2.below (HB.out.trans (HB2.out.mono hz)) (Nat.le_refl _) (by omega)
      have HPP:Hid _:=hp2
      clear hb2 hp2 hc1 hf1
      by_cases hd24:24<nd.depth
      ·have HE:Hid (runD ns 0 [] false=(31,(i:Int))):=by
        unfold Hid;rw [HSTEP.out];unfold stepD;rw [if_neg (by rw [hf];simp),if_neg (by rw [hp];simp),if_pos hd24]
       go_wp2_with fail
       go_ret2
       exact ⟨tup2 (by rw [HF.out,HE.out]) (by rw [HF.out,HE.out]),HBB.out⟩
      ·have HE:Hid (runD ns 0 [] false=runD (ns.drop (i+1)) (i+1) (pathPut st (nd.depth-1).toNat nd.kind.toNat) (begunD g nd)):=by
        unfold Hid;rw [HSTEP.out];unfold stepD;rw [if_neg (by rw [hf];simp),if_neg (by rw [hp];simp),if_neg hd24]
       have hd24':nd.depth≤24:=by omega
       have hk15:=zh8 hf
       have HL:Hid _:=yg1 hp hd24'
       have HH:Hid _:=zY7 (by omega) HK.out hp
       clear hf hp hd24 hk15
       go_wp2_with fail
       go_roundw
       case rel=>exact ⟨i+1,_,_,by omega,by go_num,HE,HBB,HPP,HL.out,HH⟩
       case measure=>simp [intOf];omega
   ·have hi':ns.length≤i:=by omega
    have HE:Hid (runD ns 0 [] false=if wantsB st then (33,(i:Int)) else (0,0)):=by
     unfold Hid;rw [hr.out,List.drop_of_length_le hi'];rfl
    have HR2:Hid _:=HR.out.below HB.out
    have ei:i=ns.length:=by omega
    clear hr
    go_wp2_with fail
    refine (zi8 _ 0 st g _ (by omega) (by omega) (fun h hh=>(HK.out h hh).1) HR2.out HP.out).mono ?_
    rintro e w1 ⟨rfl,hb1⟩
    rw [List.drop_zero]
    have HBB:Hid (Below w.heap.size w w1):=HB.out.trans (hb1.mono hz)
    clear hb1
    cases hw:wantsB st
    ·have HE2:Hid (runD ns 0 [] false=(0,0)):=by unfold Hid;rw [HE.out,hw];rfl
     go_wp2_with fail
     go_ret2
     exact ⟨tup2 (by rw [HF.out,HE2.out]) (by rw [HF.out,HE2.out]),HBB.out⟩
    ·have HE2:Hid (runD ns 0 [] false=(33,(ns.length:Int))):=by unfold Hid;rw [HE.out,hw,←ei];rfl
     go_wp2_with fail
     go_ret2
     exact ⟨tup2 (by rw [HF.out,HE2.out]) (by rw [HF.out,HE2.out]),HBB.out⟩
end
section
set_option linter.unusedVariables false
set_option linter.unusedSimpArgs false
open Go.RowKit
def flatS:Nat→List Hold→List Value
 | _,[]=>[]
 | j,h::t=>.int .i64 ((j:Int)+1)::.int .i64 h.1::.int .i64 h.2::flatS (j+1) t
theorem zY8 (j:Nat) (S:List Hold):(flatS j S).length=S.length*3:=by
 induction S generalizing j with
 | nil=>rfl
 | cons h t ih=>simp only [flatS,List.length_cons,ih];omega
theorem zr2 (j:Nat) (A B:List Hold):flatS j (A++B)=flatS j A++flatS (j+A.length) B:=by
 induction A generalizing j with
 | nil=>simp [flatS]
 | cons h t ih =>
  simp only [flatS,List.cons_append,ih,List.length_cons]
  rw [show j+1+t.length=j+(t.length+1) by omega]
theorem zY9 (j:Nat) (S:List Hold) (i:Nat) (h:i<S.length):(flatS j S)[i*3]?=some (.int .i64 ((j:Int)+i+1))∧(flatS j S)[i*3+1]?=some (.int .i64 S[i].1)∧(flatS j S)[i*3+2]?=some (.int .i64 S[i].2):=by
 induction S generalizing j i with
 | nil=>simp at h
 | cons a t ih =>
  cases i with
  | zero=>simp [flatS]
  | succ i =>
   have:=ih (j+1) i (by simpa using h)
   simp only [flatS]
   rw [show (i+1)*3=i*3+1+1+1 by omega]
   simp only [List.getElem?_cons_succ,List.getElem_cons_succ]
   refine ⟨this.1.trans (by congr 2;push_cast;omega),this.2.1,this.2.2⟩
theorem zZ0 (j:Nat) (S:List Hold) (i:Nat) (h:i<S.length) (v:Nat):(flatS j S).set (i*3+2) (.int .i64 v)=flatS j (S.set i (S[i].1,v)):=by
 induction S generalizing j i with
 | nil=>simp at h
 | cons a t ih =>
  cases i with
  | zero=>simp [flatS]
  | succ i =>
   have:=ih (j+1) i (by simpa using h)
   simp only [flatS,List.set_cons_succ,List.getElem_cons_succ]
   rw [show (i+1)*3=(i*3+2)+1 by omega]
   simp only [List.set_cons_succ,this]
def wantsR (S:List Hold):Bool:=S.any fun h=>decide ((h.2:Int)<wantR h.1)
structure NodeAt (w:World) (b:Nat) (n:Nd):Prop where
 c0:w.cell? ⟨b,0,none⟩=some (.int .i64 n.depth)
 c1:w.cell? ⟨b,1,none⟩=some (.int .i64 n.kind)
 c2:w.cell? ⟨b,2,none⟩=some (.string n.name)
 c3:w.cell? ⟨b,3,none⟩=some (.int .i64 n.num)
 c4:w.cell? ⟨b,4,none⟩=some (.int .i64 n.op)
 c5:w.cell? ⟨b,5,none⟩=some (.int .i64 n.pos)
theorem NodeAt.of {w w1:World} {b:Nat} {n:Nd} (h:NodeAt w b n) (hc:∀ o,w1.cell? ⟨b,o,none⟩=w.cell? ⟨b,o,none⟩):NodeAt w1 b n :=
 ⟨by rw [hc];exact h.c0,by rw [hc];exact h.c1,by rw [hc];exact h.c2,by rw [hc];exact h.c3,by rw [hc];exact h.c4,by rw [hc];exact h.c5⟩
def sliceLen:Value→Nat
 | .slice _ n _=>n
 | _=>0
def Stk (w:World) (B:Nat) (v:Value) (S:List Hold):Prop:=w.ownsRow B 142 3 v S.length (flatS 0 S)
theorem Stk.form {w:World} {B:Nat} {v:Value} {S:List Hold} (h:Stk w B v S) (hn:0<S.length):∃ g cap,v=.slice (some ⟨g,0,none⟩) S.length cap∧B≤g∧g<w.heap.size:=by
 rcases h.2 with ⟨_,h0⟩ | ⟨g,cap,cur,hv,hg,hh,_⟩
 ·omega
 ·refine ⟨g,cap,hv,hg,?_⟩
  rcases Nat.lt_or_ge g w.heap.size with h | h
  ·exact h
  ·rw [Array.getElem?_eq_none h] at hh;cases hh
theorem Stk.len {w:World} {B:Nat} {v:Value} {S:List Hold} (h:Stk w B v S):sliceLen v=S.length:=by
 rcases h.2 with ⟨rfl,h0⟩ | ⟨g,cap,cur,rfl,_⟩
 ·exact h0.symm
 ·rfl
theorem Stk.below {w w1:World} {B:Nat} {v:Value} {S:List Hold} (h:Stk w B v S) (hb:Below w.heap.size w w1):Stk w1 B v S:=by
 refine ⟨h.1,?_⟩
 rcases h.2 with h0 | ⟨g,cap,cur,hv,hg,hh,hr⟩
 ·exact .inl h0
 ·refine .inr ⟨g,cap,cur,hv,hg,?_,hr⟩
  rw [hb.block g ?_];exact hh
  rcases Nat.lt_or_ge g w.heap.size with h | h
  ·exact h
  ·rw [Array.getElem?_eq_none h] at hh;cases hh
theorem Stk.pop {w:World} {B g cap:Nat} {S:List Hold} {m:Nat} (hm:m+1≤S.length) (h:Stk w B (.slice (some ⟨g,0,none⟩) (m+1) cap) (S.take (m+1))):Stk w B (.slice (some ⟨g,0,none⟩) m cap) (S.take m):=by
 have e:S.take (m+1)=S.take m++[S[m]]:=List.take_succ_eq_append_getElem (by omega)
 have l1:(S.take (m+1)).length=m+1:=by rw [List.length_take];omega
 have l0:(S.take m).length=m:=by rw [List.length_take];omega
 unfold Stk at *
 rw [l1,e,zr2] at h
 rw [l0]
 exact ownsRow_pop (by rw [zY8,l0]) h
end
end Go.Proofs.YtgobgdljckamkaaGreatDoor
