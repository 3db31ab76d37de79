import Derived.Test.YtenoopfeplalnaaGreatDoorKLk
set_option maxHeartbeats 8000000
set_option linter.all false
namespace Go.Proofs.YtenoopfeplalnaaGreatDoor
section
open Go.RowKit
def kwL (l:List UInt8):Bool:=l==[118,97,114]||l==[97,114,114,97,121]||l==[105,110,112,117,116]||l==[97,115,115,101,114,116]||l==[115,107,105,112]||l==[105,102]||l==[101,108,115,101]||l==[119,104,105,108,101]||l==[116,114,117,101]||l==[102,97,108,115,101]
theorem zl0 (s:ByteArray) (w:World) :
  Calls Tryz.prog 147 #[.string s] w fun e w'=>e=.returned (.bool (kwL s.toList))/\w'=w:=by
 go_enter Tryz.func147,Tryz.ntmps147
 go_wp2
 all_goals first | (simp_all;done) | (go_ret;exact ⟨by simp only [kwL, *];rfl,rfl⟩)
theorem zD4 (c:UInt8) (w:World) :
  Calls Tryz.prog 89 #[.int .u8 c.toNat] w fun e w'=>e=.returned (.bool (isDig c))/\w'=w:=by
 go_enter Tryz.func89,Tryz.ntmps89
 go_wp2
 all_goals (go_ret;refine ⟨za5 ?_,rfl⟩;rw [Bool.eq_iff_iff,zi3];simp;omega)
theorem zh6 (c:UInt8) (w:World) :
  Calls Tryz.prog 88 #[.int .u8 c.toNat] w fun e w'=>e=.returned (.bool (isLet c))/\w'=w:=by
 go_enter Tryz.func88,Tryz.ntmps88
 go_wp2
 all_goals (go_ret;refine ⟨za5 ?_,rfl⟩;rw [Bool.eq_iff_iff,zo5];simp;omega)
def nameB (l:List UInt8):Bool := !l.isEmpty&&decide (l.length<=16) && !kwL l && !(isDig (l.headD 0))&&l.all okc
theorem zh9 (s:ByteArray) (k:Nat) (h:k<s.size):s.toList.drop k=s[k]::s.toList.drop (k+1):=by
 rw [ByteArray.toList_eq,List.drop_eq_getElem_cons (by simpa using h)];rfl
theorem zy9 (s:ByteArray) (h:0<s.size):s.toList.headD 0=s[0]:=by
 have e:=zh9 s 0 h
 rw [List.drop_zero] at e
 rw [e];rfl
theorem zl1 (c:UInt8):okc c=true↔((97<=c.toNat/\c.toNat<=122)\/(65<=c.toNat/\c.toNat<=90)\/c.toNat=95)\/(48<=c.toNat/\c.toNat<=57):=by
 unfold okc
 rw [Bool.or_eq_true,zo5,zi3]
theorem yk6 (c:UInt8) :
  (okc c=true/\97<=(c.toNat:Int)/\((c.toNat:Int)<=122/\decide ((c.toNat:Int)<=122)=true)) \/
  (okc c=true/\(c.toNat:Int)<97/\65<=(c.toNat:Int)/\((c.toNat:Int)<=90/\decide ((c.toNat:Int)<=90)=true)) \/
  (okc c=true/\(c.toNat:Int)<97/\65<=(c.toNat:Int)/\(90<(c.toNat:Int)/\decide ((c.toNat:Int)<=90)=false)/\48<=(c.toNat:Int)/\(57<(c.toNat:Int)/\decide ((c.toNat:Int)<=57)=false)/\((c.toNat:Int)==95)=true) \/
  (okc c=true/\(c.toNat:Int)<97/\(c.toNat:Int)<65/\48<=(c.toNat:Int)/\((c.toNat:Int)<=57/\decide ((c.toNat:Int)<=57)=true)) \/
  (okc c=false/\97<=(c.toNat:Int)/\(122<(c.toNat:Int)/\decide ((c.toNat:Int)<=122)=false)/\65<=(c.toNat:Int)/\(90<(c.toNat:Int)/\decide ((c.toNat:Int)<=90)=false)/\48<=(c.toNat:Int)/\(57<(c.toNat:Int)/\decide ((c.toNat:Int)<=57)=false)/\((c.toNat:Int)==95)=false) \/
  (okc c=false/\(c.toNat:Int)<97/\65<=(c.toNat:Int)/\(90<(c.toNat:Int)/\decide ((c.toNat:Int)<=90)=false)/\48<=(c.toNat:Int)/\(57<(c.toNat:Int)/\decide ((c.toNat:Int)<=57)=false)/\((c.toNat:Int)==95)=false) \/
  (okc c=false/\(c.toNat:Int)<97/\(c.toNat:Int)<65/\48<=(c.toNat:Int)/\(57<(c.toNat:Int)/\decide ((c.toNat:Int)<=57)=false)/\((c.toNat:Int)==95)=false) \/
  (okc c=false/\(c.toNat:Int)<97/\(c.toNat:Int)<65/\(c.toNat:Int)<48/\((c.toNat:Int)==95)=false):=by
 by_cases a:97<=c.toNat
 ·by_cases b:c.toNat<=122
  ·exact Or.inl (⟨(zl1 c).2 (by omega),by omega,⟨by omega,decide_eq_true (by omega)⟩⟩)
  ·exact Or.inr (Or.inr (Or.inr (Or.inr (Or.inl (⟨Bool.eq_false_iff.2 (by rw [Ne,zl1];omega),by omega,⟨by omega,decide_eq_false (by omega)⟩,by omega,⟨by omega,decide_eq_false (by omega)⟩,by omega,⟨by omega,decide_eq_false (by omega)⟩,beq_eq_false_iff_ne.2 (by omega)⟩)))))
 by_cases b:65<=c.toNat
 ·by_cases d:c.toNat<=90
  ·exact Or.inr (Or.inl (⟨(zl1 c).2 (by omega),by omega,by omega,⟨by omega,decide_eq_true (by omega)⟩⟩))
  by_cases e:c.toNat=95
  ·exact Or.inr (Or.inr (Or.inl (⟨(zl1 c).2 (by omega),by omega,by omega,⟨by omega,decide_eq_false (by omega)⟩,by omega,⟨by omega,decide_eq_false (by omega)⟩,beq_iff_eq.2 (by omega)⟩)))
  ·exact Or.inr (Or.inr (Or.inr (Or.inr (Or.inr (Or.inl (⟨Bool.eq_false_iff.2 (by rw [Ne,zl1];omega),by omega,by omega,⟨by omega,decide_eq_false (by omega)⟩,by omega,⟨by omega,decide_eq_false (by omega)⟩,beq_eq_false_iff_ne.2 (by omega)⟩))))))
 by_cases d:48<=c.toNat
 ·by_cases e:c.toNat<=57
  ·exact Or.inr (Or.inr (Or.inr (Or.inl (⟨(zl1 c).2 (by omega),by omega,by omega,by omega,⟨by omega,decide_eq_true (by omega)⟩⟩))))
  ·exact Or.inr (Or.inr (Or.inr (Or.inr (Or.inr (Or.inr (Or.inl (⟨Bool.eq_false_iff.2 (by rw [Ne,zl1];omega),by omega,by omega,by omega,⟨by omega,decide_eq_false (by omega)⟩,beq_eq_false_iff_ne.2 (by omega)⟩)))))))
 ·exact Or.inr (Or.inr (Or.inr (Or.inr (Or.inr (Or.inr (Or.inr (⟨Bool.eq_false_iff.2 (by rw [Ne,zl1];omega),by omega,by omega,by omega,beq_eq_false_iff_ne.2 (by omega)⟩)))))))
theorem zR5 (s:ByteArray) (w:World) (hs:s.size<=maxLen) :
  Calls Tryz.prog 140 #[.string s] w fun e w'=>e=.returned (.bool (nameB s.toList))/\w'=w:=by
 unfold maxLen at hs
 have hl:=zc3 s
 by_cases he:s.size=0
 ·have h0:s.toList=[]:=List.length_eq_zero_iff.1 (by omega)
  have HF:Hid (nameB s.toList=false):=by unfold Hid;rw [h0];rfl
  clear hl
  go_enter Tryz.func140,Tryz.ntmps140
  go_wp2
  go_ret
  exact ⟨za5 HF.out.symm,rfl⟩
 have hne:¬s.toList=[]:=by intro h;rw [h] at hl;simp at hl;omega
 have hne2:s.toList.isEmpty=false:=by simpa using hne
 by_cases h16:16<(s.size:Int)
 ·have HF:Hid (nameB s.toList=false):=by
   have h:decide (s.toList.length<=16)=false:=by simp [hl];omega
   unfold Hid nameB;rw [h];simp
  clear hl
  go_enter Tryz.func140,Tryz.ntmps140
  go_wp2
  go_ret
  exact ⟨za5 HF.out.symm,rfl⟩
 have h16':(s.size:Int)<=16:=by omega
 clear h16
 cases hk:kwL s.toList
 case true =>
  have HF:Hid (nameB s.toList=false):=by unfold Hid nameB;rw [hk];simp
  clear hl
  go_enter Tryz.func140,Tryz.ntmps140
  go_wp2_with (go_at_call 147;refine (zl0 _ _).mono ?_;rintro e w' ⟨rfl,rfl⟩)
  go_ret
  exact ⟨za5 HF.out.symm,rfl⟩
 have h0:0<s.size:=by omega
 cases hd:isDig s[0]
 case true =>
  have HF:Hid (nameB s.toList=false):=by unfold Hid nameB;rw [zy9 s h0,hd];simp
  have hd':=(zi3 _).1 hd
  have hd1:48<=(s[0].toNat:Int):=by omega
  have hd2:(s[0].toNat:Int)<=57:=by omega
  clear hl hd hd'
  go_enter Tryz.func140,Tryz.ntmps140
  go_wp2_with (go_at_call 147;refine (zl0 _ _).mono ?_;rintro e w' ⟨rfl,rfl⟩)
  go_ret
  exact ⟨za5 HF.out.symm,rfl⟩
 have HN:Hid (nameB s.toList=s.toList.all okc):=by
  have h:decide (s.toList.length<=16)=true:=by simp [hl];omega
  unfold Hid nameB;rw [zy9 s h0,hd,hk,hne2,h];simp
 have hd':¬(48<=(s[0].toNat:Int)/\(s[0].toNat:Int)<=57):=by
  intro h
  have:=(zi3 s[0]).2 (by omega)
  rw [hd] at this;cases this
 clear hd
 have HL:Hid _:=hl
 clear hl
 have hd1:((48<=(s[0].toNat:Int))/\57<(s[0].toNat:Int))\/(s[0].toNat:Int)<48:=by omega
 clear hd'
 go_enter Tryz.func140,Tryz.ntmps140
 rcases hd1 with ⟨hd1,hd2⟩ | hd1
 all_goals
  go_wp2_with (go_at_call 147;refine (zl0 _ _).mono ?_;rintro e w' ⟨rfl,rfl⟩)
  clear hk hne hne2
  go_loop [28] (fun i=>∃ k:Nat,k<=s.size/\i=.int .i64 k/\Hid (s.toList.all okc=(s.toList.drop k).all okc)) (fun i=>s.size-(intOf i).toNat)
  case atStart=>exact ⟨0,Nat.zero_le _,rfl,by unfold Hid;rw [List.drop_zero]⟩
  case round =>
   obtain ⟨k,hk,rfl,hr⟩:=hrel
   by_cases hlt:k<s.size
   ·rcases yk6 s[k] with ⟨ho,b1,⟨b2,d2⟩⟩ | ⟨ho,b1,b2,⟨b3,d3⟩⟩ | ⟨ho,b1,b2,⟨b3,d3⟩,b4,⟨b5,d5⟩,b6⟩ | ⟨ho,b1,b2,b3,⟨b4,d4⟩⟩ | ⟨ho,b1,⟨b2,d2⟩,b3,⟨b4,d4⟩,b5,⟨b6,d6⟩,b7⟩ | ⟨ho,b1,b2,⟨b3,d3⟩,b4,⟨b5,d5⟩,b6⟩ | ⟨ho,b1,b2,b3,⟨b4,d4⟩,b5⟩ | ⟨ho,b1,b2,b3,b4⟩
    iterate 4
     ·have H:Hid (s.toList.all okc=(s.toList.drop (k+1)).all okc):=by
       unfold Hid;rw [hr.out,zh9 s k hlt,List.all_cons,ho,Bool.true_and]
      clear ho hr
      go_wp2
      go_round
      case rel=>exact ⟨k+1,by omega,by go_num,H⟩
      case measure=>simp [intOf];omega
    all_goals
     have H:Hid (nameB s.toList=false):=by
      unfold Hid;rw [HN.out,hr.out,zh9 s k hlt,List.all_cons,ho];rfl
     clear ho hr
     go_wp2
     go_ret
     exact ⟨za5 H.out.symm,rfl⟩
   ·have H:Hid (nameB s.toList=true):=by
     unfold Hid;rw [HN.out,hr.out,List.drop_of_length_le (by rw [HL.out];omega)];rfl
    clear hr
    go_wp2
    go_ret
    exact ⟨za5 H.out.symm,rfl⟩
end
section
open Go.RowKit
def kws:List (List UInt8):=[[118,97,114],[97,114,114,97,121],[105,110,112,117,116],[97,115,115,101,114,116],[115,107,105,112],[105,102],[101,108,115,101],[119,104,105,108,101],[116,114,117,101],[102,97,108,115,101]]
def kwFrom (k:Nat) (l:List UInt8):Bool:=(kws.drop k).any (fun x=>x==l)
theorem yk7 (l:List UInt8):kwL l=kwFrom 0 l:=by
 have e:(fun x:List UInt8=>x==l)=(fun x=>l==x):=funext fun x=>BEq.comm
 unfold kwFrom
 rw [e]
 simp only [kwL,kws,List.drop_zero,List.any_cons,List.any_nil,Bool.or_false,Bool.or_assoc]
theorem zq3 (s:ByteArray) (w:World) :
  Calls Tryz.prog 126 #[.string s] w fun e w'=>e=.returned (.bool (kwL s.toList))/\Below w.heap.size w w':=by
 have HK:Hid (kwL s.toList=kwFrom 0 s.toList):=yk7 _
 go_enter Tryz.func126,Tryz.ntmps126
 go_wp2
 go_loop [4] (fun i=>∃ k:Nat,k<=10/\i=.int .i64 k/\Hid (kwL s.toList=kwFrom k s.toList)) (fun i=>10-(intOf i).toNat)
 case atStart=>exact ⟨0,by omega,rfl,HK⟩
 case round =>
  obtain ⟨k,hk,rfl,hr⟩:=hrel
  have h11:k=0\/k=1\/k=2\/k=3\/k=4\/k=5\/k=6\/k=7\/k=8\/k=9\/k=10:=by omega
  clear HK
  rcases h11 with rfl | rfl | rfl | rfl | rfl | rfl | rfl | rfl | rfl | rfl | rfl
  ·go_wp2
   ·go_ret
    exact ⟨za5 (by rw [hr.out];simp only [kwFrom,kws,List.drop_succ_cons,List.drop_zero,List.any_cons, *,Bool.true_or]),(Below.refl _ _).alloc (Nat.le_refl _) _⟩
   ·exact ⟨⟨1,by omega,rfl,by unfold Hid;rw [hr.out];simp only [kwFrom,kws,List.drop_succ_cons,List.drop_zero,List.any_cons, *,Bool.false_or]⟩,by simp [intOf]⟩
  ·go_wp2
   ·go_ret
    exact ⟨za5 (by rw [hr.out];simp only [kwFrom,kws,List.drop_succ_cons,List.drop_zero,List.any_cons, *,Bool.true_or]),(Below.refl _ _).alloc (Nat.le_refl _) _⟩
   ·exact ⟨⟨2,by omega,rfl,by unfold Hid;rw [hr.out];simp only [kwFrom,kws,List.drop_succ_cons,List.drop_zero,List.any_cons, *,Bool.false_or]⟩,by simp [intOf]⟩
  ·go_wp2
   ·go_ret
    exact ⟨za5 (by rw [hr.out];simp only [kwFrom,kws,List.drop_succ_cons,List.drop_zero,List.any_cons, *,Bool.true_or]),(Below.refl _ _).alloc (Nat.le_refl _) _⟩
   ·exact ⟨⟨3,by omega,rfl,by unfold Hid;rw [hr.out];simp only [kwFrom,kws,List.drop_succ_cons,List.drop_zero,List.any_cons, *,Bool.false_or]⟩,by simp [intOf]⟩
  ·go_wp2
   ·go_ret
    exact ⟨za5 (by rw [hr.out];simp only [kwFrom,kws,List.drop_succ_cons,List.drop_zero,List.any_cons, *,Bool.true_or]),(Below.refl _ _).alloc (Nat.le_refl _) _⟩
   ·exact ⟨⟨4,by omega,rfl,by unfold Hid;rw [hr.out];simp only [kwFrom,kws,List.drop_succ_cons,List.drop_zero,List.any_cons, *,Bool.false_or]⟩,by simp [intOf]⟩
  ·go_wp2
   ·go_ret
    exact ⟨za5 (by rw [hr.out];simp only [kwFrom,kws,List.drop_succ_cons,List.drop_zero,List.any_cons, *,Bool.true_or]),(Below.refl _ _).alloc (Nat.le_refl _) _⟩
   ·exact ⟨⟨5,by omega,rfl,by unfold Hid;rw [hr.out];simp only [kwFrom,kws,List.drop_succ_cons,List.drop_zero,List.any_cons, *,Bool.false_or]⟩,by simp [intOf]⟩
  ·go_wp2
   ·go_ret
    exact ⟨za5 (by rw [hr.out];simp only [kwFrom,kws,List.drop_succ_cons,List.drop_zero,List.any_cons, *,Bool.true_or]),(Below.refl _ _).alloc (Nat.le_refl _) _⟩
   ·exact ⟨⟨6,by omega,rfl,by unfold Hid;rw [hr.out];simp only [kwFrom,kws,List.drop_succ_cons,List.drop_zero,List.any_cons, *,Bool.false_or]⟩,by simp [intOf]⟩
  ·go_wp2
   ·go_ret
    exact ⟨za5 (by rw [hr.out];simp only [kwFrom,kws,List.drop_succ_cons,List.drop_zero,List.any_cons, *,Bool.true_or]),(Below.refl _ _).alloc (Nat.le_refl _) _⟩
   ·exact ⟨⟨7,by omega,rfl,by unfold Hid;rw [hr.out];simp only [kwFrom,kws,List.drop_succ_cons,List.drop_zero,List.any_cons, *,Bool.false_or]⟩,by simp [intOf]⟩
  ·go_wp2
   ·go_ret
    exact ⟨za5 (by rw [hr.out];simp only [kwFrom,kws,List.drop_succ_cons,List.drop_zero,List.any_cons, *,Bool.true_or]),(Below.refl _ _).alloc (Nat.le_refl _) _⟩
   ·exact ⟨⟨8,by omega,rfl,by unfold Hid;rw [hr.out];simp only [kwFrom,kws,List.drop_succ_cons,List.drop_zero,List.any_cons, *,Bool.false_or]⟩,by simp [intOf]⟩
  ·go_wp2
   ·go_ret
    exact ⟨za5 (by rw [hr.out];simp only [kwFrom,kws,List.drop_succ_cons,List.drop_zero,List.any_cons, *,Bool.true_or]),(Below.refl _ _).alloc (Nat.le_refl _) _⟩
   ·exact ⟨⟨9,by omega,rfl,by unfold Hid;rw [hr.out];simp only [kwFrom,kws,List.drop_succ_cons,List.drop_zero,List.any_cons, *,Bool.false_or]⟩,by simp [intOf]⟩
  ·go_wp2
   ·go_ret
    exact ⟨za5 (by rw [hr.out];simp only [kwFrom,kws,List.drop_succ_cons,List.drop_zero,List.any_cons, *,Bool.true_or]),(Below.refl _ _).alloc (Nat.le_refl _) _⟩
   ·exact ⟨⟨10,by omega,rfl,by unfold Hid;rw [hr.out];simp only [kwFrom,kws,List.drop_succ_cons,List.drop_zero,List.any_cons, *,Bool.false_or]⟩,by simp [intOf]⟩
  go_wp2
  go_ret
  exact ⟨za5 (by rw [hr.out];rfl),(Below.refl _ _).alloc (Nat.le_refl _) _⟩
theorem zi0 (k:Int) (w:World) :
  Calls Tryz.prog 64 #[.int .i64 k] w fun e w'=>e=.returned (.bool (decide (2<=k)&&decide (k<=8)))/\w'=w:=by
 go_enter Tryz.func64,Tryz.ntmps64
 go_wp2
 all_goals (go_ret;refine ⟨za5 ?_,rfl⟩;simp;omega)
theorem zR6 (k:Int) (w:World) :
  Calls Tryz.prog 98 #[.int .i64 k] w fun e w'=>e=.returned (.bool (decide (10<=k)&&decide (k<=15)))/\w'=w:=by
 go_enter Tryz.func98,Tryz.ntmps98
 go_wp2
 all_goals (go_ret;refine ⟨za5 ?_,rfl⟩;simp;omega)
def wantR (k:Int):Int:=if k=2\/k=5\/k=13\/k=14 then 1 else if k=3\/k=7\/k=8\/k=15 then 2 else 0
theorem zl2 {k:IntKind} {a b:Int} (h:a=b):Ending.returned (.int k a)=.returned (.int k b):=by rw [h]
theorem ze3 (k:Int) (w:World) :
  Calls Tryz.prog 62 #[.int .i64 k] w fun e w'=>e=.returned (.int .i64 (wantR k))/\w'=w:=by
 go_enter Tryz.func62,Tryz.ntmps62
 go_wp2
 all_goals first
  | (exfalso;simp_all;done)
  | (go_ret;refine ⟨zl2 ?_,rfl⟩;unfold wantR;simp only [beq_iff_eq,beq_eq_false_iff_ne] at *;omega)
theorem zX4 (s:ByteArray) (w:World) (hs:s.size<=maxLen) :
  Calls Tryz.prog 97 #[.string s] w fun e w'=>e=.returned (.bool (nameB s.toList))/\Below w.heap.size w w':=by
 unfold maxLen at hs
 have hl:=zc3 s
 by_cases he:(s.size:Int)<1
 ·have h0:s.toList=[]:=List.length_eq_zero_iff.1 (by omega)
  have HF:Hid (nameB s.toList=false):=by unfold Hid;rw [h0];rfl
  clear hl h0
  go_enter Tryz.func97,Tryz.ntmps97
  go_wp2
  go_ret
  exact ⟨za5 HF.out.symm,Below.refl _ _⟩
 have he':1<=(s.size:Int):=by omega
 have dl:decide ((s.size:Int)<1)=false:=decide_eq_false he
 clear he
 have hne:¬s.toList=[]:=by intro h;rw [h] at hl;simp at hl;omega
 have hne2:s.toList.isEmpty=false:=by simpa using hne
 by_cases h16:16<(s.size:Int)
 ·have HF:Hid (nameB s.toList=false):=by
   have h:decide (s.toList.length<=16)=false:=by simp [hl];omega
   unfold Hid nameB;rw [h];simp
  clear hl hne hne2
  go_enter Tryz.func97,Tryz.ntmps97
  go_wp2
  go_ret
  exact ⟨za5 HF.out.symm,Below.refl _ _⟩
 have h16':(s.size:Int)<=16:=by omega
 have d16:decide (16<(s.size:Int))=false:=decide_eq_false h16
 clear h16
 have h0:0<s.size:=by omega
 have HL:Hid _:=hl
 have HE:Hid _:=hne2
 clear hl hne hne2
 cases hc:isLet s[0]
 case false =>
  have HF:Hid (nameB s.toList=false):=by
   unfold Hid nameB
   rw [zy9 s h0]
   have e:=zh9 s 0 h0
   rw [List.drop_zero] at e
   cases hd:isDig s[0]
   ·rw [e,List.all_cons]
    have:okc s[0]=false:=by unfold okc;rw [hc,hd];rfl
    rw [this];simp
   ·simp
  go_enter Tryz.func97,Tryz.ntmps97
  go_wp2_with (go_at_call 88;refine (zh6 _ _).mono ?_;rintro e w' ⟨rfl,rfl⟩;rw [hc])
  go_ret
  exact ⟨za5 HF.out.symm,Below.refl _ _⟩
 cases hk:kwL s.toList
 case true =>
  have HF:Hid (nameB s.toList=false):=by unfold Hid nameB;rw [hk];simp
  go_enter Tryz.func97,Tryz.ntmps97
  go_wp2_with (go_at_call 88;refine (zh6 _ _).mono ?_;rintro e w' ⟨rfl,rfl⟩;rw [hc])
  refine (zq3 _ _).mono ?_
  rintro e w1 ⟨rfl,hb⟩
  rw [hk]
  go_wp2
  go_ret
  exact ⟨za5 HF.out.symm,hb⟩
 have HN:Hid (nameB s.toList=s.toList.all okc):=by
  have hd:isDig s[0]=false:=by
   have:=(zo5 s[0]).1 hc
   rw [Bool.eq_false_iff,Ne,zi3];omega
  have h:decide (s.toList.length<=16)=true:=by simp [HL.out];omega
  unfold Hid nameB;rw [zy9 s h0,hd,hk,HE.out,h];simp
 go_enter Tryz.func97,Tryz.ntmps97
 go_wp2_with (go_at_call 88;refine (zh6 _ _).mono ?_;rintro e w' ⟨rfl,rfl⟩;rw [hc])
 refine (zq3 _ _).mono ?_
 rintro e w1 ⟨rfl,hb⟩
 rw [hk]
 clear hk hc
 go_wp2
 go_loop [3] (fun i=>∃ k:Nat,k<=s.size/\i=.int .i64 k/\Hid (s.toList.all okc=(s.toList.drop k).all okc)) (fun i=>s.size-(intOf i).toNat)
 case atStart=>exact ⟨0,Nat.zero_le _,rfl,by unfold Hid;rw [List.drop_zero]⟩
 case round =>
  obtain ⟨k,hk,rfl,hr⟩:=hrel
  by_cases hlt:k<s.size
  ·cases hc:isLet s[k]
   case true =>
    have H:Hid (s.toList.all okc=(s.toList.drop (k+1)).all okc):=by
     unfold Hid;rw [hr.out,zh9 s k hlt,List.all_cons];unfold okc;rw [hc];rfl
    clear hr
    go_wp2_with (go_at_call 88;refine (zh6 _ _).mono ?_;rintro e w' ⟨rfl,rfl⟩;rw [hc])
    go_round
    case rel=>exact ⟨k+1,by omega,by go_num,H⟩
    case measure=>simp [intOf];omega
   cases hd:isDig s[k]
   case true =>
    have H:Hid (s.toList.all okc=(s.toList.drop (k+1)).all okc):=by
     unfold Hid;rw [hr.out,zh9 s k hlt,List.all_cons];unfold okc;rw [hc,hd];rfl
    clear hr
    go_wp2_with (first | (go_at_call 88;refine (zh6 _ _).mono ?_;rintro e w' ⟨rfl,rfl⟩;rw [hc]) | (go_at_call 89;refine (zD4 _ _).mono ?_;rintro e w' ⟨rfl,rfl⟩;rw [hd]))
    go_round
    case rel=>exact ⟨k+1,by omega,by go_num,H⟩
    case measure=>simp [intOf];omega
   have H:Hid (nameB s.toList=false):=by
    unfold Hid;rw [HN.out,hr.out,zh9 s k hlt,List.all_cons];unfold okc;rw [hc,hd];rfl
   clear hr
   go_wp2_with (first | (go_at_call 88;refine (zh6 _ _).mono ?_;rintro e w' ⟨rfl,rfl⟩;rw [hc]) | (go_at_call 89;refine (zD4 _ _).mono ?_;rintro e w' ⟨rfl,rfl⟩;rw [hd]))
   go_ret
   exact ⟨za5 H.out.symm,hb⟩
  ·have H:Hid (nameB s.toList=true):=by
    unfold Hid;rw [HN.out,hr.out,List.drop_of_length_le (by rw [HL.out];omega)];rfl
   clear hr
   go_wp2
   go_ret
   exact ⟨za5 H.out.symm,hb⟩
def stmtB (k:Int):Bool:=decide (2<=k)&&decide (k<=8)
def exprB (k:Int):Bool:=decide (10<=k)&&decide (k<=15)
def holdsR (o h k:Int):Bool :=
 if o=9 then stmtB k else if o=7 then (h==0&&exprB k)||((h==1||h==2)&&k==9)
 else if o=8 then (h==0&&exprB k)||(h==1&&k==9) else decide (h<wantR o)&&exprB k
theorem zX5 (d o h k:Int) (w:World) :
  Calls Tryz.prog 65 #[.agg #[.int .i64 d,.int .i64 o,.int .i64 h],.int .i64 k] w fun e w'=>e=.returned (.bool (holdsR o h k))/\Below w.heap.size w w':=by
 have hs:∀ w,Calls Tryz.prog 64 #[.int .i64 k] w fun e w'=>e=.returned (.bool (stmtB k))/\w'=w:=zi0 k
 have hx:∀ w,Calls Tryz.prog 98 #[.int .i64 k] w fun e w'=>e=.returned (.bool (exprB k))/\w'=w:=zR6 k
 have HS:Hid _:=hs
 have HX:Hid _:=hx
 clear hs hx
 by_cases h789:o=9\/o=7\/o=8
 ·go_enter Tryz.func65,Tryz.ntmps65
  have h9:(o==9)=decide (o=9):=rfl
  rcases h789 with rfl | rfl | rfl
  all_goals
   go_wp2_with (first | (go_at_call 64;refine (HS.out _).mono ?_;rintro e w' ⟨rfl,rfl⟩) | (go_at_call 98;refine (HX.out _).mono ?_;rintro e w' ⟨rfl,rfl⟩))
   all_goals (go_ret;refine ⟨za5 ?_,(Below.refl _ _).alloc (Nat.le_refl _) _⟩;simp_all [holdsR])
 ·have h9:(o==9)=false:=by rw [beq_eq_false_iff_ne];omega
  have h7:(o==7)=false:=by rw [beq_eq_false_iff_ne];omega
  have h8:(o==8)=false:=by rw [beq_eq_false_iff_ne];omega
  have HR:Hid (holdsR o h k=(decide (h<wantR o)&&exprB k)):=by
   unfold Hid holdsR;rw [if_neg (by omega),if_neg (by omega),if_neg (by omega)]
  clear h789
  cases hd:decide (h<wantR o)
  all_goals
   rw [hd] at HR
   go_enter Tryz.func65,Tryz.ntmps65
   go_wp2
   go_quiet ((first | (go_at_call 62;exact Calls.quiet_of_same (ze3 _ _)) | (go_at_call 98;exact Calls.quiet_of_same (HX.out _))))
   go_wp2
   go_ret
   refine ⟨za5 (by rw [HR.out];rfl),?_⟩
   exact below_drewN ((Below.refl _ _).alloc (Nat.le_refl _) _) _
end
section
open Go.RowKit
def namedB (k:Int):Bool:=k==0||k==1||k==2||k==3||k==4||k==12||k==13
def numB (k num op:Int):Bool :=
 if k=1\/k=10 then decide (0<=num)&&op==0
 else if k=11 then (num==0||num==1)&&op==0
 else if k=14 then num==0&&(op==1||op==2)
 else if k=15 then num==0&&(decide (3<=op)&&decide (op<=15))
 else num==0&&op==0
def fieldsB (k:Int) (name:List UInt8) (num op:Int):Bool :=
 decide (0<=k)&&decide (k<=15)&&(if namedB k then nameB name else name.isEmpty)&&numB k num op
theorem bcell {W w1:World} (hb:Below W.heap.size W w1):(∀ b o,b<W.heap.size->w1.cell? ⟨b,o,none⟩=W.cell? ⟨b,o,none⟩)/\(∀ b o,b<W.heap.size->w1.frozen? ⟨b,o,none⟩=W.frozen? ⟨b,o,none⟩) :=
 ⟨fun b o h=>hb.cell (p:=⟨b,o,none⟩) h,fun b o h=>hb.frozen (p:=⟨b,o,none⟩) h⟩
theorem zw1 (d k num op a:Int) (s:ByteArray) (w:World) (hs:s.size<=maxLen) :
  Calls Tryz.prog 63 #[.agg #[.int .i64 d,.int .i64 k,.string s,.int .i64 num,.int .i64 op,.int .i64 a]] w fun e w'=>e=.returned (.bool (fieldsB k s.toList num op))/\Below w.heap.size w w':=by
 have HS:Hid _:=hs
 clear hs
 have h17:k<0\/15<k\/k=0\/k=1\/k=2\/k=3\/k=4\/k=12\/k=13\/k=5\/k=6\/k=7\/k=8\/k=9\/k=10\/k=11\/k=14\/k=15:=by omega
 go_enter Tryz.func63,Tryz.ntmps63
 rcases h17 with h | h | rfl | rfl | rfl | rfl | rfl | rfl | rfl | rfl | rfl | rfl | rfl | rfl | rfl | rfl | rfl | rfl
 ·go_wp2
  go_ret
  refine ⟨za5 ?_,(Below.refl _ _).alloc (Nat.le_refl _) _⟩
  have:decide (0<=k)=false:=by simp;omega
  unfold fieldsB;rw [this];rfl
 ·have h0:0<=k:=by omega
  go_wp2
  go_ret
  refine ⟨za5 ?_,(Below.refl _ _).alloc (Nat.le_refl _) _⟩
  have:decide (k<=15)=false:=by simp;omega
  unfold fieldsB;rw [this];simp
 iterate 7
  ·go_wp2_with fail
   refine (zX4 _ _ HS.out).mono ?_
   rintro e w1 ⟨rfl,hb⟩
   obtain ⟨hc,hf⟩:=bcell hb
   have HB:Hid (Below w.heap.size w w1):=((Below.refl _ _).alloc (Nat.le_refl _) _).trans (hb.mono (by simp))
   clear hb
   cases hn:nameB s.toList
   ·go_wp2
    go_ret
    exact ⟨za5 (by simp [fieldsB,namedB,hn]),HB.out⟩
   ·go_wp2
    all_goals (go_ret;refine ⟨za5 ?_,HB.out⟩)
    all_goals (clear HB hc hf HS;first | (simp_all [fieldsB,namedB,numB];done) | (simp [fieldsB,namedB,numB,hn];omega))
 all_goals
  by_cases he:s.toList=[]
  ·go_wp2
   all_goals (go_ret;refine ⟨za5 ?_,(Below.refl _ _).alloc (Nat.le_refl _) _⟩)
   all_goals (clear HS;first | (simp_all [fieldsB,namedB,numB];done) | (simp [fieldsB,namedB,numB,he];omega))
  ·have he2:s.toList.isEmpty=false:=by simpa using he
   go_wp2
   go_ret
   refine ⟨za5 ?_,(Below.refl _ _).alloc (Nat.le_refl _) _⟩
   simp [fieldsB,namedB,he]
end
end Go.Proofs.YtenoopfeplalnaaGreatDoor
