import Derived.Test.YtenoopfeplalnaaGreatDoorKJb
import Derived.Test.YtenoopfeplalnaaGreatDoorKQi
set_option linter.all false
namespace Go.Proofs.YtenoopfeplalnaaGreatDoor
section
open Go.RowKit
def TxtP (l:List UInt8) (ns:List Nd):Prop:=∃ P:RP,lexS l=.inr P.ts/\P.en=l.length/\(parE P).1=0/\(parE P).2.2=ns/\(programR ns).1=0
def TxtN (l:List UInt8):Prop:=(∃ p,lexS l=.inl p)\/∃ P:RP,lexS l=.inr P.ts/\P.en=l.length/\((parE P).1=0->(programR (parE P).2.2).1≠0)
end
section
open Go.RowKit
def ns0:List Nd:=[⟨1,0,⟨#[120]⟩,0,0,0⟩,⟨1,7,⟨#[]⟩,0,0,7⟩,⟨2,15,⟨#[]⟩,0,10,12⟩,⟨3,12,⟨#[120]⟩,0,0,10⟩,⟨3,10,⟨#[]⟩,0,0,14⟩,⟨2,9,⟨#[]⟩,0,0,16⟩,⟨2,9,⟨#[]⟩,0,0,25⟩,⟨3,6,⟨#[]⟩,0,0,27⟩,⟨1,8,⟨#[]⟩,0,0,35⟩,⟨2,11,⟨#[]⟩,1,0,41⟩,⟨2,9,⟨#[]⟩,0,0,46⟩]
theorem zh7 {α:Type} {f:α->α->Bool} (hf:∀ a,f a a=true):∀ (l:List α),likeB f l l=true
 | []=>rfl
 | a::s=>by rw [likeB,hf,zh7 hf s];rfl
theorem zJ6 (l:Ls):sameLs l l=true:=by
 unfold sameLs
 have h1:∀ a,eqSt a a=true:=fun a=>by unfold eqSt;simp
 have h2:∀ a,eqAr a a=true:=fun a=>by unfold eqAr;simp
 have h3:∀ a,eqIn a a=true:=fun a=>by unfold eqIn;simp
 rw [zh7 h1,zh7 h2,zh7 h3,zh7 h3,zh7 h3];rfl
theorem yo3 {ns:List Nd} (hok:∀ n∈ns,n.Ok) (h:(programR ns).1=0):goodD ns (programR ns).2.2=true:=by
 rw [yh6 ns _ hok,h,zJ6];rfl
end
section
open Go.RowKit
def mkOf (k:Nat):List Value:=if k=0 then [.int .i64 (-7),.int .i64 0,.string ⟨#[]⟩,.int .i64 0,.int .i64 0,.int .i64 0] else if k=1 then [.string ⟨#[114,111,111,109]⟩] else if k=2 then [.string ⟨#[]⟩,.int .i64 (-7)] else [.int .i64 (-7)]
def cpV (ns:List Nd) (l:Ls) (g d:Nat->Nat) (k:Nat):Value:=.slice (some ⟨g k,0,none⟩) (nOf ns.length l k) (d k)
structure CpIs (w:World) (B:Nat) (g d:Nat->Nat) (ns:List Nd) (l:Ls):Prop where
 row:∀ k,k<6->w.ownsRow (B+2) (TY k) (SZ k) (.slice (some ⟨g k,0,none⟩) (nOf ns.length l k+1) (d k)) (nOf ns.length l k+1) (xOf ns ns.length l k++mkOf k)
 up:∀ j k,j<k->k<6->g j<g k
theorem yc6 (ns:List Nd) (l:Ls) (k:Nat) (hk:k<6):(xOf ns ns.length l k).length=nOf ns.length l k*SZ k:=by
 rcases (show k=0\/k=1\/k=2\/k=3\/k=4\/k=5 by omega) with rfl | rfl | rfl | rfl | rfl | rfl
 ·have e:xOf ns ns.length l 0=ndL ns:=by unfold xOf;rw [if_pos rfl,List.take_length];rfl
  rw [e];exact zt6 ns
 ·simp [xOf,nOf,SZ]
 ·exact zL7 l.ar
 ·simp [xOf,nOf,SZ]
 ·simp [xOf,nOf,SZ]
 ·simp [xOf,nOf,SZ]
theorem CpIs.pr {w:World} {B:Nat} {g d:Nat->Nat} {ns:List Nd} {l:Ls} (h:CpIs w B g d ns l):PrIs w B (cpV ns l g d) ns l:=fun k hk =>
 za8 (yh8 (h.row k hk) (yc6 ns l k hk) (Nat.le_succ _)) (Nat.le_add_right _ _)
end
section
open Go.RowKit
def CRows (w:World) (B:Nat) (g d:Nat->Nat) (ns:List Nd) (m:Ls):Prop:=∀ k,k<6->w.ownsRow B (TY k) (SZ k) (.slice (some ⟨g k,0,none⟩) (nOf ns.length m k+1) (d k)) (nOf ns.length m k+1) (xOf ns ns.length m k++mkOf k)
theorem CRows.pr {w:World} {B:Nat} {g d:Nat->Nat} {ns:List Nd} {m:Ls} (h:CRows w B g d ns m):PrIs w B (cpV ns m g d) ns m:=fun k hk=>yh8 (h k hk) (yc6 ns m k hk) (Nat.le_succ _)
theorem CRows.room {w:World} {B:Nat} {g d:Nat->Nat} {ns:List Nd} {m:Ls} (h:CRows w B g d ns m) (k:Nat) (hk:k<6):nOf ns.length m k+1<=d k/\d k<=maxLen:=yr7 (h k hk)
theorem CRows.ok {w w':World} {B:Nat} {g d:Nat->Nat} {ns:List Nd} {m:Ls} (h:CRows w B g d ns m) (hk:Ok w w'):CRows w' B g d ns m:=fun k h6=>za1 (h k h6) hk
end
section
open Go.RowKit
theorem yo4 {L:List Ed} {A Z:Nat} (h:Segs L A Z):L.length<=2*(Z-A):=by
 obtain ⟨bs,rfl,hn,hb⟩:=h
 have key:∀ (cs:List (List Ed)),(∀ c∈cs,c.length<=2)->cs.flatten.length<=2*cs.length:=by
  intro cs
  induction cs with
  | nil=>intro _;simp
  | cons c cs ih =>
   intro hc
   have h1:=hc c List.mem_cons_self
   have h2:=ih (fun d hd=>hc d (List.mem_cons_of_mem _ hd))
   rw [List.flatten_cons,List.length_append,List.length_cons]
   omega
 have:=key bs (fun c hc=>by
  obtain ⟨i,hi,e⟩:=List.mem_iff_getElem.1 hc
  rcases hb i c (by rw [List.getElem?_eq_getElem hi,e]) with ⟨x,rfl,_⟩ | ⟨x,y,rfl,_⟩<;>simp)
 omega
theorem yy2 {ns:List Nd} (h:TreeOK ns):(elF ns).length<=2*ptF ns ns.length:=by
 have:=yo4 (zC2 h).seg
 omega
end
section
open Go.RowKit Go.Maps
def lwG (ns:List Nd) (l:Ls):Option (Nat×Nat×List Ed):=if goodD ns l=true then some (ptF ns ns.length+1,ptF ns ns.length,elF ns) else none
theorem yC0 (v:Nat->Value) (ns:List Nd) (l:Ls) (w:World) (hR:RulesIs w) (hS:StepsIs w) (h:ProgIs w (v 0) (v 1) (v 2) (v 3) (v 4) (v 5) ns l) :
  Calls Tryz.prog 19 #[.agg #[v 0,v 1,v 2,v 3,v 4,v 5]] w fun e w'=>LwIs w (lwG ns l) e w':=by
 unfold lwG
 by_cases hg:goodD ns l=true
 ·rw [if_pos hg]
  refine (yt4 _ _ _ _ _ _ ns l w hR hS h hg).mono ?_
  rintro e w' ⟨u,ev,rfl,_,hu,hev,hk⟩
  obtain ⟨eo,ec,rfl⟩:=za0 hev
  refine ⟨⟨u,eo,ec,rfl,fun i hi=>?_,za8 hev (Nat.zero_le _)⟩,hk⟩
  obtain ⟨o,c,e⟩:=za0 (hu i hi)
  exact ⟨_,_,_,e⟩
 ·rw [if_neg hg]
  refine (yj2 _ _ _ _ _ _ ns l w hR h (by simpa using hg)).mono ?_
  rintro e w' ⟨rfl,hk⟩
  exact ⟨rfl,hk⟩
structure PEnv (w:World):Prop where
 rules:RulesIs w
 steps:StepsIs w
 tab:Lib.TabBelow Tryz.prog w.heap.size w "internal/strconv.uint64pow10" .u64 Lib.pow10Tab
 errC:∃ et eu,w.cell? ⟨1,0,none⟩=some (.iface et eu)
 errT:w.cell? ⟨0,0,none⟩=some (.iface 174 (.agg #[.pointer (some ⟨8,81,none⟩)]))
theorem PEnv.ok {w w':World} (h:PEnv w) (hk:Ok w w'):PEnv w':=by
 obtain ⟨et,eu,he⟩:=h.errC
 exact ⟨h.rules.below hk,h.steps.below hk,fun w2 h2=>h.tab w2 (Below.trans hk (h2.mono hk.le)),⟨et,eu,hk.cell (p:=⟨1,0,none⟩) (zi9 he) he⟩,hk.cell (p:=⟨0,0,none⟩) (zi9 h.errT) h.errT⟩
def badP (ns:List Nd) (l:Ls) (c:Nat->Int) (ts:List Int):Int:=if goodD ns l=true then refuse c ts else 2
def ptN (ns:List Nd):Nat:=ptF ns ns.length+1
def spR (ns:List Nd) (c:Nat->Int):List Int×List Vx×List Lk:=(runQ (c 2).toNat (c 0) (c 1) (elF ns) (ptN ns*(c 2).toNat+1) (ptN ns+1) []).getD ([],[],[])
theorem zt3 {ns:List Nd} {l:Ls} {c:Nat->Int} {ts:List Int} (h:badP ns l c ts=0):goodD ns l=true/\refuse c ts=0:=by
 unfold badP at h
 by_cases hg:goodD ns l=true
 ·rw [if_pos hg] at h;exact ⟨hg,h⟩
 ·rw [if_neg hg] at h;cases h
theorem zz8 {c:Nat->Int} {ts:List Int} (h:refuse c ts=0):0<=c 0/\c 0<=3/\0<=c 1/\c 1<=3/\1<=c 2/\c 2<=6:=by
 have h0:=zn6 h (k:=0) (by decide)
 have h1:=zn6 h (k:=1) (by decide)
 have h2:=zn6 h (k:=2) (by decide)
 simp only [limB,Bool.and_eq_true,decide_eq_true_eq] at h0 h1 h2
 omega
structure GrOK (ns:List Nd):Prop where
 tree:TreeOK ns
 len:ns.length<=300
 pts:ptN ns<=301
 els:(elF ns).length<=600
 frm:∀ e∈elF ns,0<=e.from'/\e.from'<(ptN ns:Int)
 wit:Within (ptN ns) (elF ns)
theorem gr_ok {ns:List Nd} {l:Ls} (hg:goodD ns l=true):GrOK ns:=by
 have h0:=zv1 hg
 have hT:=zM4 (zq0 h0)
 have hl:=(zj0 ns h0).2
 have h1:=zq5 ns ns.length
 have h2:=yy2 hT
 refine ⟨hT,hl,by unfold ptN;omega,by omega,fun e he=>?_,by unfold ptN;omega,fun e he=>?_⟩
 ·unfold ptN
  rcases (zC2 hT).pl e he with ⟨_,p,_,_,_,_,e2⟩ | ⟨p,_,_,_,_,_,e2⟩
  ·have:=zC1 ns p;omega
  ·have:=zC1 ns p;omega
 ·unfold ptN
  obtain ⟨t,e1,e2⟩:=(zC2 hT).to e he
  omega
theorem yc7 {ns:List Nd} {l:Ls} {c:Nat->Int} {ts:List Int} (h:badP ns l c ts=0):runQ (c 2).toNat (c 0) (c 1) (elF ns) (ptN ns*(c 2).toNat+1) (ptN ns+1) []=some (spR ns c):=by
 obtain ⟨hg,hr⟩:=zt3 h
 have hc:=zz8 hr
 obtain ⟨r,e⟩:=zE1 (H:=c 0) (U:=c 1) (f:=ptN ns*(c 2).toNat+1) (show 0<(c 2).toNat by omega) (gr_ok hg).wit (ptN ns+1) [] List.nodup_nil (fun n hn=>by cases hn) (by simp)
 unfold spR
 rw [e]
 rfl
theorem yc8 {ns:List Nd} {l:Ls} {c:Nat->Int} {ts:List Int} (h:badP ns l c ts=0):FI (plOf (c 2).toNat (c 0) (c 1) (elF ns) (spR ns c).1) (spR ns c).2.1.length (spR ns c).2.1 (spR ns c).2.2:=by
 obtain ⟨hg,hr⟩:=zt3 h
 have hc:=zz8 hr
 exact (zE2 (show 0<(c 2).toNat by omega) (gr_ok hg).wit (Nat.lt_succ_self _) (ptN ns+1) [] (spR ns c) List.nodup_nil (fun n hn=>by cases hn) (yc7 h)).2.2
theorem zt4 (v:Nat->Value) (c:Nat->Int) (ts:List Int) (tz:Option Addr) (tc:Nat) (ns:List Nd) (l:Ls) (w:World) (hE:PEnv w) (h:ProgIs w (v 0) (v 1) (v 2) (v 3) (v 4) (v 5) ns l) (hts:SL w 1 (.slice tz ts.length tc) ts.length (ilL ts)) :
  Calls Tryz.prog 5 #[.agg #[v 0,v 1,v 2,v 3,v 4,v 5],.agg #[.int .i64 (c 0),.int .i64 (c 1),.int .i64 (c 2),.int .i64 (c 3),.int .i64 (c 4),.int .i64 (c 5),.slice tz ts.length tc,.int .i64 (c 7),.int .i64 (c 8)]] w fun e w'=>SpG w (badP ns l c ts) (ptN ns) (spR ns c) e w':=by
 have hlw:∀ Y,Ok w Y->Calls Tryz.prog 19 #[.agg #[v 0,v 1,v 2,v 3,v 4,v 5]] Y fun e w'=>LwIs Y (lwG ns l) e w':=fun Y hY=>yC0 v ns l Y (hE.ok hY).rules (hE.ok hY).steps (h.below hY)
 have hck:∀ Y,Ok w Y->Calls Tryz.prog 21 #[.agg #[.int .i64 (c 0),.int .i64 (c 1),.int .i64 (c 2),.int .i64 (c 3),.int .i64 (c 4),.int .i64 (c 5),.slice tz ts.length tc,.int .i64 (c 7),.int .i64 (c 8)]] Y fun e w'=>CkIs Y (refuse c ts) e w':=fun Y hY=>by
  obtain ⟨et,eu,he⟩:=(hE.ok hY).errC
  exact yc2 c ts tz tc Y (hts.below hY) et eu he
 by_cases hg:goodD ns l=true
 ·have e1:lwG ns l=some (ptN ns,ptF ns ns.length,elF ns):=by unfold lwG ptN;rw [if_pos hg]
  rw [e1] at hlw
  by_cases hr:refuse c ts=0
  ·have hb:badP ns l c ts=0:=by unfold badP;rw [if_pos hg];exact hr
   have hc:=zz8 hr
   have hG:=gr_ok hg
   rw [hr] at hck
   refine (yd1 v c tz ts.length tc (ptN ns) (ptF ns ns.length) (elF ns) (spR ns c) w (fun Y hY=>yd0 v c ts tz tc _ _ _ Y (fun Z hZ=>hlw Z (hY.step hZ)) (fun Z hZ=>hck Z (hY.step hZ))) (fun Y a hY h6 hs hx he=>?_)).mono fun e w' hp=>.inr ⟨hb,hp⟩
   have e2:c 2=((c 2).toNat:Int):=by omega
   have:=yb1 a (ptN ns) (c 2).toNat (c 0) (c 1) (c 3) (c 4) (c 5) (c 7) (c 8) tz ts.length tc (elF ns) (spR ns c) Y h6 hs hx he ⟨by have:=hG.pts;omega,by omega,by have:=hG.els;omega⟩ hG.frm hG.wit (by omega) ⟨by omega,by omega⟩ (yc7 hb) (hE.ok hY).tab
   rw [<-e2] at this
   exact this
  ·have hb:badP ns l c ts=refuse c ts:=by unfold badP;rw [if_pos hg]
   refine (zx0 v c tz ts.length tc (refuse c ts) hr w (fun Y hY=>zS9 v c ts tz tc _ _ _ (refuse c ts) hr Y (hE.ok hY).errT (fun Z hZ=>hlw Z (hY.step hZ)) (fun Z hZ=>hck Z (hY.step hZ)))).mono ?_
   rintro e w' ⟨rfl,hk⟩
   exact .inl ⟨by rw [hb];exact hr,by rw [hb],hk⟩
 ·have e1:lwG ns l=none:=by unfold lwG;rw [if_neg hg]
  have hb:badP ns l c ts=2:=by unfold badP;rw [if_neg hg]
  rw [e1] at hlw
  refine (zx0 v c tz ts.length tc 2 (by decide) w (fun Y hY=>(zJ7 v c ts tz tc 0 Y (fun Z hZ=>hlw Z (hY.step hZ))).mono fun e w' hp=>hp)).mono ?_
  rintro e w' ⟨rfl,hk⟩
  exact .inl ⟨by rw [hb];decide,by rw [hb],hk⟩
end
end Go.Proofs.YtenoopfeplalnaaGreatDoor
