import Derived.Test.YtbneneijdgcccaaGreatDoorKJa
set_option maxHeartbeats 8000000
set_option linter.all false
set_option maxRecDepth 100000
namespace Go.Proofs.YtbneneijdgcccaaGreatDoor
section
open Go.RowKit Go.Maps
theorem gzero4 (w:World):(zeroValue 4).run Tryz.prog w=.ok (.bool false) w:=by kernel_rfl
structure MB (k:TypeId) (D:DataW Unit) (f:Value->Bool):Prop where
 mp:IsMap D
 val:∀ key kl,keyOf Tryz.prog k key=some kl->D.atKey kl (.lit (.bool false))=.lit (.bool (f key))
def MapB (w:World) (k:TypeId) (b N:Nat) (f:Value->Bool):Prop:=∃ n D,n<=N/\w.ownsMap Tryz.prog k (plainElem Tryz.prog 4) b n D/\MB k D f
theorem MapB.made (w:World) (k:TypeId):MapB (w.alloc (.map #[] 0)) k w.heap.size 0 (fun _=>false):=⟨0,_,Nat.le_refl _,World.ownsMap_made w Tryz.prog k _,⟨[],rfl⟩,fun _ _ _=>rfl⟩
theorem MapB.lt {w:World} {k:TypeId} {b N:Nat} {f:Value->Bool} (h:MapB w k b N f):b<w.heap.size:=by obtain ⟨n,D,_,h1,_⟩:=h;exact h1.lt
theorem MapB.kept {w w':World} {k:TypeId} {b N:Nat} {f:Value->Bool} {r:Option Nat} (h:MapB w k b N f) (hg:w.grownBy w' r) (hne:some b≠r):MapB w' k b N f:=by
 obtain ⟨n,D,h0,h1,h2⟩:=h;exact ⟨n,D,h0,h1.kept hg hne,h2⟩
theorem MapB.ok {w w':World} {k:TypeId} {b N:Nat} {f:Value->Bool} (h:MapB w k b N f) (hb:Ok w w'):MapB w' k b N f:=h.kept (zu1 hb) (by simp)
theorem MapB.look {w:World} {k t:TypeId} {b N:Nat} {f:Value->Bool} (h:MapB w k b N f) (K:Keyed Tryz.prog k) (ht:Tryz.prog.underlying t=some (.map k 4)) {key:Value} {kl:Lit} (hk:keyOf Tryz.prog k key=some kl) :
  (Instr.lookup t (.map (some b)) key false).run Tryz.prog w=.ok (.bool (f key)) w:=by
 obtain ⟨n,D,_,hD,hS⟩:=h
 obtain ⟨u,ps,hrun,hu⟩:=hD.lookup K ht (gzero4 w) (plainElem_bool Tryz.underlying4 false) hk
 rw [hS.val key kl hk] at hu
 rw [hrun]
 cases u with
 | bool x =>
  rw [plainElem_bool Tryz.underlying4 x] at hu
  simp only [Option.some.injEq,Prod.mk.injEq,DataW.lit.injEq,Lit.bool.injEq] at hu
  rw [hu.1]
 | _=>simp [plainElem,Tryz.underlying4] at hu
theorem MapB.put {w:World} {k t:TypeId} {b N:Nat} {f f':Value->Bool} (h:MapB w k b N f) (K:Keyed Tryz.prog k) (ht:Tryz.prog.underlying t=some (.map k 4)) {key:Value} {kl:Lit} (hk:keyOf Tryz.prog k key=some kl) (hN:N<maxLen) (e1:f' key=true) (e2:∀ u,u≠key->f' u=f u) :
  ∃ w',(Instr.mapUpdate t (.map (some b)) key (.bool true)).run Tryz.prog w=.ok () w'/\MapB w' k b (N+1) f'/\w.grownBy w' (some b):=by
 obtain ⟨n,D,hn,hD,hS⟩:=h
 obtain ⟨w',hrun,hD',hg⟩:=hD.update K ht (by omega) hk (plainElem_bool Tryz.underlying4 true)
 refine ⟨w',hrun,⟨n+1,_,by omega,hD',?_,fun u ul hu=>?_⟩,hg⟩
 ·obtain ⟨es,rfl⟩:=hS.mp
  exact ⟨_,DataW.put_eq _ _ _⟩
 by_cases e:u=key
 ·subst e
  obtain rfl:kl=ul:=Option.some.inj (hk.symm.trans hu)
  rw [e1]
  exact atKey_put_same hS.mp (K.key hk) _ _
 have hne:ul≠kl:=fun e1=>by subst e1;exact e (K.inj hu hk)
 rw [atKey_put_other hne,e2 u e]
 exact hS.val u ul hu
def SetN (w:World) (b N:Nat) (p:Int->Bool):Prop:=∃ f,MapB w 3 b N f/\∀ x:Int,f (.int .i64 x)=p x
theorem keyI {x:Int} (h0 : -9223372036854775808<=x) (h1:x<=9223372036854775807):keyOf Tryz.prog 3 (.int .i64 x)=some (.int .i64 x):=keyOf_int_mk Tryz.underlying3 (gwf h0 h1)
theorem law3g:Keyed Tryz.prog 3:=int_keyed Tryz.underlying3
theorem SetN.made (w:World):SetN (w.alloc (.map #[] 0)) w.heap.size 0 (fun _=>false):=⟨_,MapB.made w 3,fun _=>rfl⟩
theorem SetN.kept {w w':World} {b N:Nat} {p:Int->Bool} {r:Option Nat} (h:SetN w b N p) (hg:w.grownBy w' r) (hne:some b≠r):SetN w' b N p:=by
 obtain ⟨f,h1,h2⟩:=h;exact ⟨f,h1.kept hg hne,h2⟩
theorem SetN.ok {w w':World} {b N:Nat} {p:Int->Bool} (h:SetN w b N p) (hb:Ok w w'):SetN w' b N p:=by
 obtain ⟨f,h1,h2⟩:=h;exact ⟨f,h1.ok hb,h2⟩
theorem SetN.lt {w:World} {b N:Nat} {p:Int->Bool} (h:SetN w b N p):b<w.heap.size:=by obtain ⟨f,h1,_⟩:=h;exact h1.lt
theorem SetN.look {w:World} {t:TypeId} {b N:Nat} {p:Int->Bool} (h:SetN w b N p) (ht:Tryz.prog.underlying t=some (.map 3 4)) {x:Int} (h0 : -9223372036854775808<=x) (h1:x<=9223372036854775807) :
  (Instr.lookup t (.map (some b)) (.int .i64 x) false).run Tryz.prog w=.ok (.bool (p x)) w:=by
 obtain ⟨f,h2,h3⟩:=h
 rw [<-h3 x]
 exact h2.look law3g ht (keyI h0 h1)
theorem SetN.put {w:World} {t:TypeId} {b N:Nat} {p:Int->Bool} (h:SetN w b N p) (ht:Tryz.prog.underlying t=some (.map 3 4)) {x:Int} (h0 : -9223372036854775808<=x) (h1:x<=9223372036854775807) (hN:N<maxLen) :
  ∃ w',(Instr.mapUpdate t (.map (some b)) (.int .i64 x) (.bool true)).run Tryz.prog w=.ok () w'/\SetN w' b (N+1) (fun y=>y==x||p y)/\w.grownBy w' (some b):=by
 obtain ⟨f,h2,h3⟩:=h
 classical
 obtain ⟨w',r1,r2,r3⟩:=h2.put (f':=fun u=>if u=.int .i64 x then true else f u) law3g ht (keyI h0 h1) hN (by simp) (fun u hu=>by simp [hu])
 refine ⟨w',r1,⟨_,r2,fun y=>?_⟩,r3⟩
 by_cases c:y=x
 ·subst c;simp
 have:¬(Value.int IntKind.i64 y=.int .i64 x):=fun e=>c (by injection e)
 simp only [this,if_false,h3 y]
 simp [c]
def NumN (w:World) (b N:Nat) (p:Int->Int):Prop:=∃ f,MapF w 3 b N f/\∀ x:Int,(f (.int .i64 x)).getD 0=p x
theorem NumN.made (w:World):NumN (w.alloc (.map #[] 0)) w.heap.size 0 (fun _=>0):=⟨_,MapF.made w 3,fun _=>rfl⟩
theorem NumN.kept {w w':World} {b N:Nat} {p:Int->Int} {r:Option Nat} (h:NumN w b N p) (hg:w.grownBy w' r) (hne:some b≠r):NumN w' b N p:=by
 obtain ⟨f,h1,h2⟩:=h;exact ⟨f,h1.kept hg hne,h2⟩
theorem NumN.ok {w w':World} {b N:Nat} {p:Int->Int} (h:NumN w b N p) (hb:Ok w w'):NumN w' b N p:=by
 obtain ⟨f,h1,h2⟩:=h;exact ⟨f,h1.ok hb,h2⟩
theorem NumN.lt {w:World} {b N:Nat} {p:Int->Int} (h:NumN w b N p):b<w.heap.size:=by obtain ⟨f,h1,_⟩:=h;exact h1.lt
theorem NumN.look {w:World} {t:TypeId} {b N:Nat} {p:Int->Int} (h:NumN w b N p) (ht:Tryz.prog.underlying t=some (.map 3 3)) {x:Int} (h0 : -9223372036854775808<=x) (h1:x<=9223372036854775807) :
  (Instr.lookup t (.map (some b)) (.int .i64 x) false).run Tryz.prog w=.ok (.int .i64 (p x)) w:=by
 obtain ⟨f,h2,h3⟩:=h
 rw [<-h3 x]
 exact h2.look law3g ht (keyI h0 h1)
theorem NumN.put {w:World} {t:TypeId} {b N:Nat} {p:Int->Int} (h:NumN w b N p) (ht:Tryz.prog.underlying t=some (.map 3 3)) {x:Int} (h0 : -9223372036854775808<=x) (h1:x<=9223372036854775807) {z:Int} (z0 : -9223372036854775808<=z) (z1:z<=9223372036854775807) (hN:N<maxLen) :
  ∃ w',(Instr.mapUpdate t (.map (some b)) (.int .i64 x) (.int .i64 z)).run Tryz.prog w=.ok () w'/\NumN w' b (N+1) (fun y=>if y=x then z else p y)/\w.grownBy w' (some b):=by
 obtain ⟨f,h2,h3⟩:=h
 classical
 obtain ⟨w',r1,r2,r3⟩:=h2.put (f':=fun u=>if u=.int .i64 x then some z else f u) law3g ht (keyI h0 h1) z0 z1 hN (by simp) (fun u hu=>by simp [hu])
 refine ⟨w',r1,⟨_,r2,fun y=>?_⟩,r3⟩
 by_cases c:y=x
 ·subst c;simp
 have:¬(Value.int IntKind.i64 y=.int .i64 x):=fun e=>c (by injection e)
 simp only [this,if_false,c,h3 y]
def SetS (w:World) (b N:Nat) (l:List (List UInt8)):Prop:=∃ f,MapB w 9 b N f/\∀ s:ByteArray,f (.string s)=decide (s.data.toList∈l)
theorem SetS.made (w:World):SetS (w.alloc (.map #[] 0)) w.heap.size 0 []:=⟨_,MapB.made w 9,fun _=>by simp⟩
theorem SetS.kept {w w':World} {b N:Nat} {l:List (List UInt8)} {r:Option Nat} (h:SetS w b N l) (hg:w.grownBy w' r) (hne:some b≠r):SetS w' b N l:=by
 obtain ⟨f,h1,h2⟩:=h;exact ⟨f,h1.kept hg hne,h2⟩
theorem SetS.ok {w w':World} {b N:Nat} {l:List (List UInt8)} (h:SetS w b N l) (hb:Ok w w'):SetS w' b N l:=by
 obtain ⟨f,h1,h2⟩:=h;exact ⟨f,h1.ok hb,h2⟩
theorem SetS.lt {w:World} {b N:Nat} {l:List (List UInt8)} (h:SetS w b N l):b<w.heap.size:=by obtain ⟨f,h1,_⟩:=h;exact h1.lt
theorem SetS.look {w:World} {t:TypeId} {b N:Nat} {l:List (List UInt8)} (h:SetS w b N l) (ht:Tryz.prog.underlying t=some (.map 9 4)) {s:ByteArray} (hs:s.size<=maxLen) :
  (Instr.lookup t (.map (some b)) (.string s) false).run Tryz.prog w=.ok (.bool (decide (s.data.toList∈l))) w:=by
 obtain ⟨f,h2,h3⟩:=h
 rw [<-h3 s]
 exact h2.look (string_keyed Tryz.underlying9) ht (WideMaps.keyOf_string_mk Tryz.underlying9 hs)
theorem SetS.put {w:World} {t:TypeId} {b N:Nat} {l:List (List UInt8)} (h:SetS w b N l) (ht:Tryz.prog.underlying t=some (.map 9 4)) {s:ByteArray} (hs:s.size<=maxLen) (hN:N<maxLen) :
  ∃ w',(Instr.mapUpdate t (.map (some b)) (.string s) (.bool true)).run Tryz.prog w=.ok () w'/\SetS w' b (N+1) (s.data.toList::l)/\w.grownBy w' (some b):=by
 obtain ⟨f,h2,h3⟩:=h
 classical
 obtain ⟨w',r1,r2,r3⟩:=h2.put (f':=fun u=>if u=.string s then true else f u) (string_keyed Tryz.underlying9) ht (WideMaps.keyOf_string_mk Tryz.underlying9 hs) hN (by simp) (fun u hu=>by simp [hu])
 refine ⟨w',r1,⟨_,r2,fun y=>?_⟩,r3⟩
 by_cases c:y=s
 ·subst c;simp
 have h4:¬(Value.string y=.string s):=fun e=>c (by injection e)
 have h5:¬y.data.toList=s.data.toList:=fun e=>c (by cases y;cases s;simpa using e)
 simp only [h4,if_false,h3 y,List.mem_cons,h5,false_or]
end
section
open Go.RowKit
theorem SL.place {w:World} {s n:Nat} {ao:Option Addr} {c:Nat} {xs:List Value} (h:SL w s (.slice ao n c) n xs) (hn:0<n):∃ b off,ao=some ⟨b,off,none⟩/\b<w.heap.size/\∀ (j:Nat) (u:Value),xs[j]?=some u->w.cell? ⟨b,off+j,none⟩=some u:=by
 obtain ⟨_,_,ao',c',e,h2⟩:=h
 injection e with e1 _ _
 subst e1
 exact h2.resolve_left (by omega)
theorem zM0 (a b:Value) (l:List Int) (w:World) (h1:SL w 1 a l.length (ilL l)) (h2:SL w 1 b l.length (ilL l)) (hl:l.length<=100000) :
  Calls Tryz.prog 21 #[a,b] w fun e w'=>e=.returned (.bool true)/\Ok w w':=by
 have H1:=hid h1
 have H2:=hid h2
 obtain ⟨_,_,ao,ac,rfl,_⟩:=h1
 obtain ⟨_,_,bo,bc,rfl,_⟩:=h2
 obtain ⟨n,hn⟩:=qq (l.length)
 have HN:Hi (n=l.length/\n<=100000):=⟨hn,by omega⟩
 rw [<-hn] at H1 H2 ⊢
 clear hn hl
 go_enter Tryz.func21,Tryz.ntmps21
 go_wp2_with fail
 go_loopw [5] (fun t wr=>∃ k:Nat,t=.int .i64 (k:Nat)/\k<=n/\Hi (Ok w wr)) (fun t _=>n-(intOf t).toNat)
 case atStart=>exact ⟨0,rfl,Nat.zero_le _,Ok.refl _⟩
 obtain ⟨k,rfl,hk,HK⟩:=hrel
 by_cases hkl:k<n
 ·have hkl':(k:Int)<(n:Int):=za5 hkl
  have hkw:IntKind.i64.wrap ((k:Int)+1)=((k+1:Nat):Int):=zb3 (by have:=HN.o;omega)
  obtain ⟨y,hy⟩:∃ y,l[k]?=some y:=⟨_,List.getElem?_eq_getElem (by have:=HN.o;omega)⟩
  obtain ⟨b1,f1,rfl,q1,c1⟩:=(H1.o.below HK.o).place (by omega)
  obtain ⟨b2,f2,rfl,q2,c2⟩:=(H2.o.below HK.o).place (by omega)
  have d1:=c1 k (.int .i64 y) (zk6 hy)
  have d2:=c2 k (.int .i64 y) (zk6 hy)
  clear c1 c2 hy
  go_wp2_with fail
  go_quiet (fail)
  go_wp2_with fail
  refine ⟨⟨k+1,rfl,hkl,below_drewN HK.o _⟩,?_⟩
  simp only [intOf,Int.toNat_natCast]
  omega
 have hkl':¬(k:Int)<(n:Int):=by omega
 go_wp2_with fail
 go_ret
 exact ⟨rfl,HK.o⟩
theorem zH2 (hv lv hv' lv':Value) (t:Tok) (w:World) (h1:TokIs w hv lv t) (h2:TokIs w hv' lv' t) (hb:t.2.1.length<=100000/\t.2.2.length<=100000) :
  Calls Tryz.prog 10 #[.agg #[.bool t.1,hv,lv],.agg #[.bool t.1,hv',lv']] w fun e w'=>e=.returned (.bool true)/\Ok w w':=by
 have H1:=hid h1.loops
 have H2:=hid h2.loops
 have HS:Hi (∀ Y,Ok w Y->Calls Tryz.prog 21 #[hv,hv'] Y fun e w'=>e=.returned (.bool true)/\Ok Y w'):=fun Y hY=>zM0 hv hv' t.2.1 Y (h1.hist.below hY) (h2.hist.below hY) hb.1
 obtain ⟨_,_,ho,hc,e1,_⟩:=h1.hist
 obtain ⟨_,_,lo,lc,e2,_⟩:=h1.loops
 obtain ⟨_,_,ho',hc',e3,_⟩:=h2.hist
 obtain ⟨_,_,lo',lc',e4,_⟩:=h2.loops
 obtain ⟨m,hs,ls⟩:=t
 obtain ⟨q,hq⟩:=qq (hs.length)
 obtain ⟨n,hn⟩:=qq (ls.length)
 have HN:Hi (n=ls.length/\n<=100000):=⟨hn,hn ▸ hb.2⟩
 simp only [<-hq,<-hn] at e1 e2 e3 e4 H1 H2
 subst e1 e2 e3 e4
 clear hn hq hb h1 h2
 go_enter Tryz.func10,Tryz.ntmps10
 go_wp2_with fail
 obtain ⟨W,hW⟩:=qq ((w.alloc (Obj.cells #[.bool m,.slice ho q hc,.slice lo n lc] 50)).alloc (Obj.cells #[.bool m,.slice ho' q hc',.slice lo' n lc'] 50))
 obtain ⟨gA,hgA⟩:=qq (w.heap.size)
 obtain ⟨gB,hgB⟩:=qq (w.heap.size+1)
 rw [<-hW,<-hgB,<-hgA]
 have HK0:Hi (Ok w W):=by rw [hW];exact ((Ok.refl w).alloc _).alloc _
 have HA:Hi (W.heap[gA]?=some (.cells #[.bool m,.slice ho q hc,.slice lo n lc] 50 (0,0))):=by rw [hW,hgA];exact jj
 have HB:Hi (W.heap[gB]?=some (.cells #[.bool m,.slice ho' q hc',.slice lo' n lc'] 50 (0,0))):=by rw [hW,hgB];exact jj
 clear hW hgA hgB
 refine (HS.o W HK0.o).mono ?_
 rintro e w1 ⟨rfl,hk1⟩
 obtain ⟨a0,a1,a2,_⟩:=za9 (Ok.row' hk1 HA.o)
 have la:=za2 (Ok.row' hk1 HA.o)
 obtain ⟨b0,b1,b2,_⟩:=za9 (Ok.row' hk1 HB.o)
 have lb:=za2 (Ok.row' hk1 HB.o)
 have HK1:Hi (Ok w w1):=HK0.o.step hk1
 have HA1:Hi (w1.heap[gA]?=_):=Ok.row' hk1 HA.o
 have HB1:Hi (w1.heap[gB]?=_):=Ok.row' hk1 HB.o
 clear hk1 HA HB HS
 go_wp2_with fail
 clear a0 a1 a2 b0 b1 b2 la lb
 go_loopw [5] (fun t wr=>∃ k:Nat,t=.int .i64 (k:Nat)/\k<=n/\Hi (Ok w1 wr)) (fun t _=>n-(intOf t).toNat)
 case atStart=>exact ⟨0,rfl,Nat.zero_le _,Ok.refl _⟩
 obtain ⟨k,rfl,hk,HK⟩:=hrel
 obtain ⟨_,_,a2,_⟩:=za9 (Ok.row' HK.o HA1.o)
 have la:=za2 (Ok.row' HK.o HA1.o)
 obtain ⟨_,_,b2,_⟩:=za9 (Ok.row' HK.o HB1.o)
 have lb:=za2 (Ok.row' HK.o HB1.o)
 by_cases hkl:k<n
 ·have hkl':(k:Int)<(n:Int):=za5 hkl
  have hkw:IntKind.i64.wrap ((k:Int)+1)=((k+1:Nat):Int):=zb3 (by have:=HN.o;omega)
  obtain ⟨y,hy⟩:∃ y,ls[k]?=some y:=⟨_,List.getElem?_eq_getElem (by have:=HN.o;omega)⟩
  obtain ⟨p1,f1,rfl,q1,c1⟩:=(H1.o.below (HK1.o.step HK.o)).place (by omega)
  obtain ⟨p2,f2,rfl,q2,c2⟩:=(H2.o.below (HK1.o.step HK.o)).place (by omega)
  have d1:=c1 (k*2) _ (zi1 ls k y hy).1
  have d2:=c1 (k*2+1) _ (zi1 ls k y hy).2
  have d3:=c2 (k*2) _ (zi1 ls k y hy).1
  have d4:=c2 (k*2+1) _ (zi1 ls k y hy).2
  rw [<-Nat.add_assoc] at d2 d4
  clear c1 c2 hy
  go_wp2_with fail
  go_quiet (fail)
  go_wp2_with fail
  refine ⟨⟨k+1,rfl,hkl,below_drewN HK.o _⟩,?_⟩
  simp only [intOf,Int.toNat_natCast]
  omega
 have hkl':¬(k:Int)<(n:Int):=by omega
 go_wp2_with fail
 go_ret
 exact ⟨rfl,HK1.o.step HK.o⟩
end
section
open Go.RowKit Go.Maps
structure HF (p:Pl) (N:Nat) (cap:Int) (ml:List Int) (vs:List Vx) (ls:List Lk) (es:List Ed) (B:Nat->Nat):Prop where
 rise:ml.Pairwise (· < ·)
 mlb:∀ n∈ml,0<=n/\n<(N:Int)
 mlen:ml.length<=1000
 mgd:∀ n,decide (n∈ml)=p.mgd n
 small:0<vs.length/\vs.length<=2000/\ls.length<=2000000/\es.length<=600/\N<=1000
 node:∀ v∈vs,0<=v.1/\v.1<(N:Int)
 edge:∀ e∈es,0<=e.to'/\e.to'<(N:Int)
 tkb:∀ v∈vs,TkB 100000 v.2
 cnt:∀ (k:Nat) (n:Int),(many (vs.take k) n:Int)<=cap
 key:∀ (k:Nat) (v:Vx),vs[k]?=some v->atV Lib.itoa v ∉ (vs.take k).map (atV Lib.itoa)
 mgt:∀ v∈vs,p.mgd v.1=true->v.2.1=true
 b0:B 0=0
 bn:∀ (i:Nat) (v:Vx),vs[i]?=some v->B (i+1)=B i+(outP es v.1 es.length).length
 be:B vs.length=ls.length
 link:∀ (i k:Nat) (v:Vx) (e:Ed),vs[i]?=some v->es[k]?=some e->e.from'=v.1->∃ l,ls[B i+(outP es v.1 k).length]?=some l/\l.1=i/\l.2.2=k/\vs[l.2.1]?=some (e.to',p.tok e.to' (stepT p.H p.U e k v.2))
 led:∀ j,1<=j->j<vs.length->∃ l∈ls.take (B j),l.2.1=j
structure HS (X:World) (gm gn gs gl:Nat) (M:Int->Bool) (C:Int->Int) (L:List (List UInt8)) (D:Int->Bool) (km kn ks kl:Nat) (w:World):Prop where
 ok:Ok X w
 m:SetN w gm km M
 n:NumN w gn kn C
 s:SetS w gs ks L
 l:SetN w gl kl D
 ord:X.heap.size<=gm/\gm<gn/\gn<gs/\gs<gl
theorem HS.step {X:World} {gm gn gs gl:Nat} {M:Int->Bool} {C:Int->Int} {L:List (List UInt8)} {D:Int->Bool} {km kn ks kl:Nat} {w w':World} (h:HS X gm gn gs gl M C L D km kn ks kl w) (hk:Ok w w'):HS X gm gn gs gl M C L D km kn ks kl w':=⟨h.ok.step hk,h.m.ok hk,h.n.ok hk,h.s.ok hk,h.l.ok hk,h.ord⟩
theorem HS.putN {X:World} {gm gn gs gl:Nat} {M:Int->Bool} {C:Int->Int} {L:List (List UInt8)} {D:Int->Bool} {km kn ks kl:Nat} {w:World} (h:HS X gm gn gs gl M C L D km kn ks kl w) {t:TypeId} (ht:Tryz.prog.underlying t=some (.map 3 3)) {x z:Int} (h0:I64 x) (z0:I64 z) (hN:kn<maxLen) :
  ∃ w',(Instr.mapUpdate t (.map (some gn)) (.int .i64 x) (.int .i64 z)).run Tryz.prog w=.ok () w'/\HS X gm gn gs gl M (fun y=>if y=x then z else C y) L D km (kn+1) ks kl w'/\w.grownBy w' (some gn):=by
 obtain ⟨w',r,h1,h2⟩:=h.n.put ht h0.1 h0.2 z0.1 z0.2 hN
 have ho:=h.ord
 exact ⟨w',r,⟨h.ok.grown h2 (fun b e=>by injection e with e;omega),h.m.kept h2 (by simp;omega),h1,h.s.kept h2 (by simp;omega),h.l.kept h2 (by simp;omega),ho⟩,h2⟩
theorem HS.putS {X:World} {gm gn gs gl:Nat} {M:Int->Bool} {C:Int->Int} {L:List (List UInt8)} {D:Int->Bool} {km kn ks kl:Nat} {w:World} (h:HS X gm gn gs gl M C L D km kn ks kl w) {t:TypeId} (ht:Tryz.prog.underlying t=some (.map 9 4)) {s:ByteArray} (hs:s.size<=maxLen) (hN:ks<maxLen) :
  ∃ w',(Instr.mapUpdate t (.map (some gs)) (.string s) (.bool true)).run Tryz.prog w=.ok () w'/\HS X gm gn gs gl M C (s.data.toList::L) D km kn (ks+1) kl w'/\w.grownBy w' (some gs):=by
 obtain ⟨w',r,h1,h2⟩:=h.s.put ht hs hN
 have ho:=h.ord
 exact ⟨w',r,⟨h.ok.grown h2 (fun b e=>by injection e with e;omega),h.m.kept h2 (by simp;omega),h.n.kept h2 (by simp;omega),h1,h.l.kept h2 (by simp;omega),ho⟩,h2⟩
theorem HS.putL {X:World} {gm gn gs gl:Nat} {M:Int->Bool} {C:Int->Int} {L:List (List UInt8)} {D:Int->Bool} {km kn ks kl:Nat} {w:World} (h:HS X gm gn gs gl M C L D km kn ks kl w) {t:TypeId} (ht:Tryz.prog.underlying t=some (.map 3 4)) {x:Int} (h0:I64 x) (hN:kl<maxLen) :
  ∃ w',(Instr.mapUpdate t (.map (some gl)) (.int .i64 x) (.bool true)).run Tryz.prog w=.ok () w'/\HS X gm gn gs gl M C L (fun y=>y==x||D y) km kn ks (kl+1) w'/\w.grownBy w' (some gl):=by
 obtain ⟨w',r,h1,h2⟩:=h.l.put ht h0.1 h0.2 hN
 have ho:=h.ord
 exact ⟨w',r,⟨h.ok.grown h2 (fun b e=>by injection e with e;omega),h.m.kept h2 (by simp;omega),h.n.kept h2 (by simp;omega),h.s.kept h2 (by simp;omega),h1,ho⟩,h2⟩
theorem yh3 (w:World) {r:Int} (h0:0<=r) (h1:r<2048):(Go.convert 3 21 (.int .i64 r)).run Tryz.prog w=.ok (.int .i32 r) w:=by
 have e:IntKind.i32.wrap r=r:=by rw [IntKind.wrap_i32];omega
 simp [Go.convert,run_underlying Tryz.underlying3,run_underlying Tryz.underlying21,Conv.intToInt,e]
theorem ys0 (w:World) {r:Int} (h0:0<=r) (h1:r<2048):(Go.convert 21 9 (.int .i32 r)).run Tryz.prog w=.ok (.string ⟨(runeB r.toNat).toArray⟩) w:=by
 have e:Utf8.encode r=⟨(runeB r.toNat).toArray⟩:=by
  have hv:Utf8.valid r=true:=by simp [Utf8.valid];omega
  unfold Utf8.encode runeB
  rw [hv]
  simp only [if_true]
  by_cases c:r.toNat<128
  ·rw [if_pos c,if_pos c]
  rw [if_neg c,if_neg c,if_pos (by omega)]
 simp [Go.convert,run_underlying Tryz.underlying9,run_underlying Tryz.underlying21,Conv.intToString,e]
def ledB (ls:List Lk) (k:Nat) (j:Int):Bool:=j==0||(ls.take k).any fun l=>(l.2.1:Int)==j
theorem yh4 {ls:List Lk} {k:Nat} {l:Lk} (h:ls[k]?=some l):ledB ls (k+1)=fun j=>j==(l.2.1:Int)||ledB ls k j:=by
 funext j
 unfold ledB
 rw [zm0 h,List.any_append]
 have e:((l.2.1:Int)==j)=(j==(l.2.1:Int)):=by rw [Bool.eq_iff_iff,beq_iff_eq,beq_iff_eq];exact eq_comm
 simp only [List.any_cons,List.any_nil,Bool.or_false,e]
 cases (j==0)<;>cases (j==(l.2.1:Int))<;>simp
theorem zH3 {vs:List Vx} {k:Nat} {v:Vx} (h:vs[k]?=some v):(fun n=>(many (vs.take (k+1)) n:Int))=fun n=>if n=v.1 then (many (vs.take k) v.1:Int)+1 else many (vs.take k) n:=by
 funext n
 unfold many
 rw [zm0 h,List.countP_append]
 by_cases c:n=v.1
 ·subst c;simp
 have c':¬v.1=n:=fun e=>c e.symm
 simp [c,c']
structure HLaw (W:World) (v:Nat->Value) (c:Nat->Int) (tz:Option Addr) (tn tc:Nat) (r:Int) (N x:Nat) (R:List Int×List Vx×List Lk) (es:List Ed):Prop where
 sp:∀ Z,Ok W Z->Calls Tryz.prog 5 #[.agg #[v 0,v 1,v 2,v 3,v 4,v 5],.agg #[.int .i64 (c 0),.int .i64 (c 1),.int .i64 (c 2),.int .i64 (c 3),.int .i64 (c 4),.int .i64 (c 5),.slice tz tn tc,.int .i64 (c 7),.int .i64 (c 8)]] Z fun e w'=>SpG Z r N R e w'
 lo:r=0->∀ Z,Ok W Z->Calls Tryz.prog 7 #[.agg #[v 0,v 1,v 2,v 3,v 4,v 5]] Z fun e w'=>∃ ev:Value,e=.returned (.tuple #[.agg #[v 0,v 1,v 2,v 3,v 4,v 5,.int .i64 (N:Nat),.int .i64 (x:Nat),ev],.int .i64 0])/\w'.ownsRow Z.heap.size 56 6 ev es.length (edL es)/\Ok Z w'
 st:r=0->∀ Z (hv lv:Value) (t:Tok) (k:Nat) (e:Ed),Ok W Z->es[k]?=some e->TokIs Z hv lv t->TkB 100000 t->Calls Tryz.prog 9 #[.agg #[v 0,v 1,v 2,v 3,v 4,v 5],.agg #[.int .i64 (c 0),.int .i64 (c 1),.int .i64 (c 2),.int .i64 (c 3),.int .i64 (c 4),.int .i64 (c 5),.slice tz tn tc,.int .i64 (c 7),.int .i64 (c 8)],.agg #[.bool t.1,hv,lv],.int .i64 (k:Nat)] Z fun ex w'=>∃ hv' lv',ex=.returned (.tuple #[.agg #[.bool (stepT (c 0) (c 1) e k t).1,hv',lv'],.int .i64 0])/\TokOwn w' Z.heap.size hv' lv' (stepT (c 0) (c 1) e k t)/\Ok Z w'
 ky:∀ Z (hv lv:Value) (t:Tok),Ok W Z->TokIs Z hv lv t->TkB 100000 t->Calls Tryz.prog 8 #[.agg #[.bool t.1,hv,lv]] Z fun e w'=>e=.returned (.string ⟨(keyT Lib.itoa t).toArray⟩)/\Ok Z w'
 tk:∀ Z,Ok W Z->Calls Tryz.prog 6 #[] Z fun e w'=>e=.returned (.bool true)/\Ok Z w'
def HPrg (w:World) (c:Nat->Int) (tz:Option Addr) (tn tc:Nat) (e:Ending) (w':World):Prop:=∃ (v:Nat->Value) (r:Int) (N x:Nat) (R:List Int×List Vx×List Lk) (es:List Ed) (p:Pl) (B:Nat->Nat),e=.returned (.agg #[v 0,v 1,v 2,v 3,v 4,v 5])/\(∀ i,i<6->∃ ao n c,v i=.slice ao n c)/\Ok w w'/\HLaw w' v c tz tn tc r N x R es/\(r=0->HF p N (c 2) (mgL N R.1) R.2.1 R.2.2 es B/\p.H=c 0/\p.U=c 1)
end
end Go.Proofs.YtbneneijdgcccaaGreatDoor
