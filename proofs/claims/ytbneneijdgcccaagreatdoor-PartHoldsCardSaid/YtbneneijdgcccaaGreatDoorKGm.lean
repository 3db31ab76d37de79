import Derived.Test.YtbneneijdgcccaaGreatDoorKGb
set_option linter.all false
namespace Go.Proofs.YtbneneijdgcccaaGreatDoor
open Go.RowKit Go.Maps
theorem gzero3 (w:World):(zeroValue 3).run Tryz.prog w=.ok (.int .i64 0) w:=by kernel_rfl
theorem gwf {v:Int} (h0 : -9223372036854775808<=v) (h1:v<=9223372036854775807):(Lit.int .i64 v).wf=true:=by
 have e1:IntKind.i64.min = -9223372036854775808:=by decide
 have e2:IntKind.i64.max=9223372036854775807:=by decide
 simp only [Lit.wf,e1,e2]
 simp [h0,h1]
structure MI (k:TypeId) (D:DataW Unit) (f:Value->Option Int):Prop where
 mp:IsMap D
 val:∀ key kl,keyOf Tryz.prog k key=some kl->Maps.has D kl=(f key).isSome/\D.atKey kl (.lit (.int .i64 0))=.lit (.int .i64 ((f key).getD 0))
theorem MI.nil (k:TypeId):MI k (.map []) (fun _=>Option.none):=⟨⟨[],rfl⟩,fun key kl _=>⟨rfl,rfl⟩⟩
theorem MI.put {k:TypeId} (K:Keyed Tryz.prog k) {D:DataW Unit} {f f':Value->Option Int} (h:MI k D f) {key:Value} {kl:Lit} (hk:keyOf Tryz.prog k key=some kl) {y:Int} (h1:f' key=some y) (h2:∀ u,u≠key->f' u=f u):MI k (D.put kl (.lit (.int .i64 y))) f':=by
 refine ⟨?_,fun u ul hu=>?_⟩
 ·obtain ⟨es,rfl⟩:=h.mp
  exact ⟨_,DataW.put_eq _ _ _⟩
 by_cases e:u=key
 ·subst e
  rw [hk] at hu
  injection hu with hu
  subst hu
  rw [h1]
  exact ⟨has_put_same h.mp (K.key hk) _,atKey_put_same h.mp (K.key hk) _ _⟩
 have hne:ul≠kl:=fun e1=>by subst e1;exact e (K.inj hu hk)
 rw [has_put_other hne,atKey_put_other hne,h2 u e]
 exact h.val u ul hu
def MapF (w:World) (k:TypeId) (b N:Nat) (f:Value->Option Int):Prop:=∃ n D,n<=N/\w.ownsMap Tryz.prog k (plainElem Tryz.prog 3) b n D/\MI k D f
theorem MapF.made (w:World) (k:TypeId):MapF (w.alloc (.map #[] 0)) k w.heap.size 0 (fun _=>Option.none):=⟨0,_,Nat.le_refl _,World.ownsMap_made w Tryz.prog k _,MI.nil k⟩
theorem MapF.lt {w:World} {k:TypeId} {b N:Nat} {f:Value->Option Int} (h:MapF w k b N f):b<w.heap.size:=by obtain ⟨n,D,_,h1,_⟩:=h;exact h1.lt
theorem MapF.kept {w w':World} {k:TypeId} {b N:Nat} {f:Value->Option Int} {r:Option Nat} (h:MapF w k b N f) (hg:w.grownBy w' r) (hne:some b≠r):MapF w' k b N f:=by
 obtain ⟨n,D,h0,h1,h2⟩:=h;exact ⟨n,D,h0,h1.kept hg hne,h2⟩
theorem MapF.ok {w w':World} {k:TypeId} {b N:Nat} {f:Value->Option Int} (h:MapF w k b N f) (hb:Ok w w'):MapF w' k b N f:=h.kept (zu1 hb) (by simp)
theorem MapF.alloc {w:World} {k:TypeId} {b N:Nat} {f:Value->Option Int} (h:MapF w k b N f) (o:Obj):MapF (w.alloc o) k b N f:=by
 obtain ⟨n,D,h0,h1,h2⟩:=h;exact ⟨n,D,h0,h1.alloc o,h2⟩
theorem MapF.set {w:World} {k:TypeId} {b N:Nat} {f:Value->Option Int} (h:MapF w k b N f) {p:Addr} (hp:b≠p.block) (v:Value):MapF (w.setCell p v) k b N f:=by
 obtain ⟨n,D,h0,h1,h2⟩:=h;exact ⟨n,D,h0,h1.setCell hp v,h2⟩
theorem MapF.more {w:World} {k:TypeId} {b N M:Nat} {f:Value->Option Int} (h:MapF w k b N f) (hm:N<=M):MapF w k b M f:=by
 obtain ⟨n,D,h0,h1,h2⟩:=h;exact ⟨n,D,Nat.le_trans h0 hm,h1,h2⟩
theorem MapF.as {w:World} {k:TypeId} {b N:Nat} {f g:Value->Option Int} (h:MapF w k b N f) (hf:∀ key kl,keyOf Tryz.prog k key=some kl->g key=f key):MapF w k b N g:=by
 obtain ⟨n,D,h0,h1,h2⟩:=h;exact ⟨n,D,h0,h1,h2.mp,fun key kl hk=>by rw [hf key kl hk];exact h2.val key kl hk⟩
theorem MapF.look_ok {w:World} {k t:TypeId} {b N:Nat} {f:Value->Option Int} (h:MapF w k b N f) (K:Keyed Tryz.prog k) (ht:Tryz.prog.underlying t=some (.map k 3)) {key:Value} {kl:Lit} (hk:keyOf Tryz.prog k key=some kl) :
  (Instr.lookup t (.map (some b)) key true).run Tryz.prog w=.ok (.tuple #[.int .i64 ((f key).getD 0),.bool (f key).isSome]) w:=by
 obtain ⟨n,D,_,hD,hS⟩:=h
 obtain ⟨u,ps,hrun,hu⟩:=hD.look_ok K ht (gzero3 w) (plainElem_int Tryz.underlying3 (by decide)) hk
 obtain ⟨e1,e2⟩:=hS.val key kl hk
 rw [e2] at hu
 obtain ⟨a,rfl,e,_⟩:=plainElem_int_inv Tryz.underlying3 hu
 simp only [Prod.mk.injEq,DataW.lit.injEq,Lit.int.injEq,true_and] at e
 rw [hrun,e1,e.1]
theorem MapF.look {w:World} {k t:TypeId} {b N:Nat} {f:Value->Option Int} (h:MapF w k b N f) (K:Keyed Tryz.prog k) (ht:Tryz.prog.underlying t=some (.map k 3)) {key:Value} {kl:Lit} (hk:keyOf Tryz.prog k key=some kl) :
  (Instr.lookup t (.map (some b)) key false).run Tryz.prog w=.ok (.int .i64 ((f key).getD 0)) w:=by
 obtain ⟨n,D,_,hD,hS⟩:=h
 obtain ⟨u,ps,hrun,hu⟩:=hD.lookup K ht (gzero3 w) (plainElem_int Tryz.underlying3 (by decide)) hk
 obtain ⟨e1,e2⟩:=hS.val key kl hk
 rw [e2] at hu
 obtain ⟨a,rfl,e,_⟩:=plainElem_int_inv Tryz.underlying3 hu
 simp only [Prod.mk.injEq,DataW.lit.injEq,Lit.int.injEq,true_and] at e
 rw [hrun,e.1]
theorem MapF.put {w:World} {k t:TypeId} {b N:Nat} {f f':Value->Option Int} (h:MapF w k b N f) (K:Keyed Tryz.prog k) (ht:Tryz.prog.underlying t=some (.map k 3)) {key:Value} {kl:Lit} (hk:keyOf Tryz.prog k key=some kl) {y:Int} (h0 : -9223372036854775808<=y) (h1:y<=9223372036854775807) (hN:N<maxLen) (e1:f' key=some y) (e2:∀ u,u≠key->f' u=f u) :
  ∃ w',(Instr.mapUpdate t (.map (some b)) key (.int .i64 y)).run Tryz.prog w=.ok () w'/\MapF w' k b (N+1) f'/\w.grownBy w' (some b):=by
 obtain ⟨n,D,hn,hD,hS⟩:=h
 obtain ⟨w',hrun,hD',hg⟩:=hD.update K ht (by omega) hk (plainElem_int (a:=y) Tryz.underlying3 (gwf h0 h1))
 exact ⟨w',hrun,⟨n+1,_,by omega,hD',hS.put K hk e1 e2⟩,hg⟩
end Go.Proofs.YtbneneijdgcccaaGreatDoor
