import Derived.Test.YtihdgmiicfbbkaaGreatDoorKLk
set_option maxHeartbeats 8000000
set_option linter.all false
namespace Go.Proofs.YtihdgmiicfbbkaaGreatDoor
open Go.RowKit
def kwL (l:List UInt8):Bool:=l==[118,97,114]||l==[97,114,114,97,121]||l==[105,110,112,117,116]||l==[97,115,115,101,114,116]||l==[115,107,105,112]||l==[105,102]||l==[101,108,115,101]||l==[119,104,105,108,101]||l==[116,114,117,101]||l==[102,97,108,115,101]
theorem zl3 (s:ByteArray) (w:World) :
  Calls Tryz.prog 172 #[.string s] w fun e w'=>e=.returned (.bool (kwL s.toList))/\w'=w:=by
 go_enter Tryz.func172,Tryz.ntmps172;go_wp2
 all_goals first | (simp_all;done) | (go_ret;exact ⟨by simp only [kwL, *];rfl,rfl⟩)
theorem zE1 (c:UInt8) (w:World) :
  Calls Tryz.prog 81 #[.int .u8 c.toNat] w fun e w'=>e=.returned (.bool (isDig c))/\w'=w:=by
 go_enter Tryz.func81,Tryz.ntmps81;go_wp2
 all_goals (go_ret;refine ⟨za4 ?_,rfl⟩;rw [Bool.eq_iff_iff,zi3];simp;omega)
theorem zh5 (c:UInt8) (w:World) :
  Calls Tryz.prog 80 #[.int .u8 c.toNat] w fun e w'=>e=.returned (.bool (isLet c))/\w'=w:=by
 go_enter Tryz.func80,Tryz.ntmps80;go_wp2
 all_goals (go_ret;refine ⟨za4 ?_,rfl⟩;rw [Bool.eq_iff_iff,zo8];simp;omega)
def nameB (l:List UInt8):Bool := !l.isEmpty&&decide (l.length<=16) && !kwL l && !(isDig (l.headD 0))&&l.all okc
theorem zh8 (s:ByteArray) (k:Nat) (h:k<s.size):s.toList.drop k=s[k]::s.toList.drop (k+1):=by rw [ByteArray.toList_eq,List.drop_eq_getElem_cons (by simpa using h)];rfl
theorem zz4 (s:ByteArray) (h:0<s.size):s.toList.headD 0=s[0]:=by have e:=zh8 s 0 h;rw [List.drop_zero] at e;rw [e];rfl
theorem zl4 (c:UInt8):okc c=true↔((97<=c.toNat/\c.toNat<=122)\/(65<=c.toNat/\c.toNat<=90)\/c.toNat=95)\/(48<=c.toNat/\c.toNat<=57):=by unfold okc;rw [Bool.or_eq_true,zo8,zi3]
theorem ym2 (c:UInt8) :
  (okc c=true/\97<=(c.toNat:Int)/\((c.toNat:Int)<=122/\decide ((c.toNat:Int)<=122)=true)) \/
  (okc c=true/\(c.toNat:Int)<97/\65<=(c.toNat:Int)/\((c.toNat:Int)<=90/\decide ((c.toNat:Int)<=90)=true)) \/
  (okc c=true/\(c.toNat:Int)<97/\65<=(c.toNat:Int)/\(90<(c.toNat:Int)/\decide ((c.toNat:Int)<=90)=false)/\48<=(c.toNat:Int)/\(57<(c.toNat:Int)/\decide ((c.toNat:Int)<=57)=false)/\((c.toNat:Int)==95)=true) \/
  (okc c=true/\(c.toNat:Int)<97/\(c.toNat:Int)<65/\48<=(c.toNat:Int)/\((c.toNat:Int)<=57/\decide ((c.toNat:Int)<=57)=true)) \/
  (okc c=false/\97<=(c.toNat:Int)/\(122<(c.toNat:Int)/\decide ((c.toNat:Int)<=122)=false)/\65<=(c.toNat:Int)/\(90<(c.toNat:Int)/\decide ((c.toNat:Int)<=90)=false)/\48<=(c.toNat:Int)/\(57<(c.toNat:Int)/\decide ((c.toNat:Int)<=57)=false)/\((c.toNat:Int)==95)=false) \/
  (okc c=false/\(c.toNat:Int)<97/\65<=(c.toNat:Int)/\(90<(c.toNat:Int)/\decide ((c.toNat:Int)<=90)=false)/\48<=(c.toNat:Int)/\(57<(c.toNat:Int)/\decide ((c.toNat:Int)<=57)=false)/\((c.toNat:Int)==95)=false) \/
  (okc c=false/\(c.toNat:Int)<97/\(c.toNat:Int)<65/\48<=(c.toNat:Int)/\(57<(c.toNat:Int)/\decide ((c.toNat:Int)<=57)=false)/\((c.toNat:Int)==95)=false) \/
  (okc c=false/\(c.toNat:Int)<97/\(c.toNat:Int)<65/\(c.toNat:Int)<48/\((c.toNat:Int)==95)=false):=by
 by_cases a:97<=c.toNat
 ·by_cases b:c.toNat<=122
  ·exact Or.inl (⟨(zl4 c).2 oM,by omega,⟨by omega,dT_ oM⟩⟩)
  exact Or.inr (Or.inr (Or.inr (Or.inr (Or.inl (⟨Bool.eq_false_iff.2 (by rw [Ne,zl4];omega),by omega,⟨by omega,decide_eq_false (by omega)⟩,by omega,⟨by omega,decide_eq_false (by omega)⟩,by omega,⟨by omega,decide_eq_false (by omega)⟩,beq_eq_false_iff_ne.2 (by omega)⟩)))))
 by_cases b:65<=c.toNat
 ·by_cases d:c.toNat<=90
  ·exact Or.inr (Or.inl (⟨(zl4 c).2 oM,by omega,by omega,⟨by omega,dT_ oM⟩⟩))
  by_cases e:c.toNat=95
  ·exact Or.inr (Or.inr (Or.inl (⟨(zl4 c).2 oM,by omega,by omega,⟨by omega,dF_ oM⟩,by omega,⟨by omega,dF_ oM⟩,beq_iff_eq.2 oM⟩)))
  exact Or.inr (Or.inr (Or.inr (Or.inr (Or.inr (Or.inl (⟨Bool.eq_false_iff.2 (by rw [Ne,zl4];omega),by omega,by omega,⟨by omega,decide_eq_false (by omega)⟩,by omega,⟨by omega,decide_eq_false (by omega)⟩,beq_eq_false_iff_ne.2 (by omega)⟩))))))
 by_cases d:48<=c.toNat
 ·by_cases e:c.toNat<=57
  ·exact Or.inr (Or.inr (Or.inr (Or.inl (⟨(zl4 c).2 oM,by omega,by omega,by omega,⟨by omega,dT_ oM⟩⟩))))
  exact Or.inr (Or.inr (Or.inr (Or.inr (Or.inr (Or.inr (Or.inl (⟨Bool.eq_false_iff.2 (by rw [Ne,zl4];omega),by omega,by omega,by omega,⟨by omega,decide_eq_false (by omega)⟩,beq_eq_false_iff_ne.2 (by omega)⟩)))))))
 exact Or.inr (Or.inr (Or.inr (Or.inr (Or.inr (Or.inr (Or.inr (⟨Bool.eq_false_iff.2 (by rw [Ne,zl4];omega),by omega,by omega,by omega,beq_eq_false_iff_ne.2 (by omega)⟩)))))))
theorem zT5 (s:ByteArray) (w:World) (hs:s.size<=maxLen) :
  Calls Tryz.prog 163 #[.string s] w fun e w'=>e=.returned (.bool (nameB s.toList))/\w'=w:=by
 unfold maxLen at hs;have hl:=zc2 s;by_cases he:s.size=0
 ·have h0:s.toList=[]:=List.length_eq_zero_iff.1 oM
  have HF:Hi (nameB s.toList=false):=by unfold Hi;rw [h0];rfl
  clear hl;go_enter Tryz.func163,Tryz.ntmps163;go_wp2;go_ret;exact ⟨za4 HF.o.symm,rfl⟩
 have hne:¬s.toList=[]:=by intro h;rw [h] at hl;simp at hl;omega
 have hne2:s.toList.isEmpty=false:=by simpa using hne
 by_cases h16:16<(s.size:Int)
 ·have HF:Hi (nameB s.toList=false):=by
   have h:decide (s.toList.length<=16)=false:=by simp [hl];omega
   unfold Hi nameB;rw [h];simp
  clear hl;go_enter Tryz.func163,Tryz.ntmps163;go_wp2;go_ret;exact ⟨za4 HF.o.symm,rfl⟩
 have h16':(s.size:Int)<=16:=oM;clear h16;cases hk:kwL s.toList
 case true =>
  have HF:Hi (nameB s.toList=false):=by unfold Hi nameB;rw [hk];simp
  clear hl;go_enter Tryz.func163,Tryz.ntmps163
  go_wp2_with (go_at_call 172;refine (zl3 _ _).mono ?_;rintro e w' ⟨rfl,rfl⟩)
  go_ret;exact ⟨za4 HF.o.symm,rfl⟩
 have h0:0<s.size:=oM;cases hd:isDig s[0]
 case true =>
  have HF:Hi (nameB s.toList=false):=by unfold Hi nameB;rw [zz4 s h0,hd];simp
  have hd':=(zi3 _).1 hd;have hd1:48<=(s[0].toNat:Int):=oM;have hd2:(s[0].toNat:Int)<=57:=oM;clear hl hd hd';go_enter Tryz.func163,Tryz.ntmps163
  go_wp2_with (go_at_call 172;refine (zl3 _ _).mono ?_;rintro e w' ⟨rfl,rfl⟩)
  go_ret;exact ⟨za4 HF.o.symm,rfl⟩
 have HN:Hi (nameB s.toList=s.toList.all okc):=by
  have h:decide (s.toList.length<=16)=true:=by simp [hl];omega
  unfold Hi nameB;rw [zz4 s h0,hd,hk,hne2,h];simp
 have hd':¬(48<=(s[0].toNat:Int)/\(s[0].toNat:Int)<=57):=by intro h;have:=(zi3 s[0]).2 oM;rw [hd] at this;cases this
 clear hd;have HL:Hi _:=hl;clear hl;have hd1:((48<=(s[0].toNat:Int))/\57<(s[0].toNat:Int))\/(s[0].toNat:Int)<48:=oM;clear hd';go_enter Tryz.func163,Tryz.ntmps163;rcases hd1 with ⟨hd1,hd2⟩ | hd1
 all_goals
  go_wp2_with (go_at_call 172;refine (zl3 _ _).mono ?_;rintro e w' ⟨rfl,rfl⟩)
  clear hk hne hne2
  go_loop [28] (fun i=>∃ k:Nat,k<=s.size/\i=nI k/\Hi (s.toList.all okc=(s.toList.drop k).all okc)) (fun i=>s.size-(intOf i).toNat)
  case atStart=>exact ⟨0,Nat.zero_le _,rfl,by unfold Hi;rw [List.drop_zero]⟩
  obtain ⟨k,hk,rfl,hr⟩:=hrel;by_cases hlt:k<s.size
  ·rcases ym2 s[k] with ⟨ho,b1,⟨b2,d2⟩⟩ | ⟨ho,b1,b2,⟨b3,d3⟩⟩ | ⟨ho,b1,b2,⟨b3,d3⟩,b4,⟨b5,d5⟩,b6⟩ | ⟨ho,b1,b2,b3,⟨b4,d4⟩⟩ | ⟨ho,b1,⟨b2,d2⟩,b3,⟨b4,d4⟩,b5,⟨b6,d6⟩,b7⟩ | ⟨ho,b1,b2,⟨b3,d3⟩,b4,⟨b5,d5⟩,b6⟩ | ⟨ho,b1,b2,b3,⟨b4,d4⟩,b5⟩ | ⟨ho,b1,b2,b3,b4⟩
   iterate 4
    ·have H:Hi (s.toList.all okc=(s.toList.drop (k+1)).all okc):=by
      unfold Hi;rw [hr.o,zh8 s k hlt,List.all_cons,ho,Bool.true_and]
     clear ho hr;go_wp2
     go_round
     case rel=>exact ⟨k+1,by omega,by go_num,H⟩
     case measure=>simp [intOf];omega
   all_goals
    have H:Hi (nameB s.toList=false):=by unfold Hi;rw [HN.o,hr.o,zh8 s k hlt,List.all_cons,ho];rfl
    clear ho hr;go_wp2;go_ret;exact ⟨za4 H.o.symm,rfl⟩
  have H:Hi (nameB s.toList=true):=by unfold Hi;rw [HN.o,hr.o,List.drop_of_length_le (by rw [HL.o];omega)];rfl
  clear hr;go_wp2;go_ret;exact ⟨za4 H.o.symm,rfl⟩
end Go.Proofs.YtihdgmiicfbbkaaGreatDoor
