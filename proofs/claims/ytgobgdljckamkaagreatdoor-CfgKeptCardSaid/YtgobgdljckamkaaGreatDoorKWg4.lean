import Derived.Test.YtgobgdljckamkaaGreatDoorKWroot
set_option linter.unusedVariables false
set_option linter.unusedSimpArgs false
set_option linter.unnecessarySimpa false
namespace Go.Proofs.YtgobgdljckamkaaGreatDoor
open Go.RowKit
theorem newB (W:World) (o:Obj):∃ z g,z=W.alloc o∧g=W.heap.size∧z.heap[g]?=some o∧Ok W z:=⟨_,_,rfl,rfl,za6 _ _,(Ok.refl _).alloc _⟩
theorem TUI.pr {w wr:World} {B:Nat} {g d:Nat→Nat} {ns:List Nd} {m:Ls} (h:TUI w wr B g d ns m ns.length) (hsy:m.sy.length=ns.length):PrIs wr B (cpV ns m g d) (tnL x1 m.sc ns ns.length) (tnM ns m):=fun k hk=>by
 have h1:PrIs wr B (cpV (tnL x1 m.sc ns ns.length) (tnM ns m) g d) (tnL x1 m.sc ns ns.length) (tnM ns m):=CRows.pr h.row
 have h2:=h1 k hk
 rw [zu9 hsy] at h2
 exact h2
def nine (w:World) (g:Nat) (b0 b1 b2 b3 b4 b5 b6 b7 b8:Value):World:=((((((((w.setCell ⟨g,0,none⟩ b0).setCell ⟨g,1,none⟩ b1).setCell ⟨g,2,none⟩ b2).setCell ⟨g,3,none⟩ b3).setCell ⟨g,4,none⟩ b4).setCell ⟨g,5,none⟩ b5).setCell ⟨g,6,none⟩ b6).setCell ⟨g,7,none⟩ b7).setCell ⟨g,8,none⟩ b8
theorem nine_heap (w:World) (g:Nat) (b0 b1 b2 b3 b4 b5 b6 b7 b8:Value) {h:Nat} (hne:h≠g):(nine w g b0 b1 b2 b3 b4 b5 b6 b7 b8).heap[h]?=w.heap[h]?:=by
 unfold nine
 rw [Below.heap_setCell _ _ _ _ hne,Below.heap_setCell _ _ _ _ hne,Below.heap_setCell _ _ _ _ hne,Below.heap_setCell _ _ _ _ hne,Below.heap_setCell _ _ _ _ hne,Below.heap_setCell _ _ _ _ hne,Below.heap_setCell _ _ _ _ hne,Below.heap_setCell _ _ _ _ hne,Below.heap_setCell _ _ _ _ hne]
theorem nineP_set {w:World} {g:Nat} {t:TypeId} {a0 a1 a2 a3 a4 a5 a6 a7 a8:Value} (h:w.heap[g]?=some (.cells #[a0,a1,a2,a3,a4,a5,a6,a7,a8] t (0,0))) (b0 b1 b2 b3 b4 b5 b6 b7 b8:Value) :
  (nine w g b0 b1 b2 b3 b4 b5 b6 b7 b8).heap[g]?=some (.cells #[b0,b1,b2,b3,b4,b5,b6,b7,b8] t (0,0)):=by
 have h0:=heap_setCell_same w g 0 _ t b0 h
 have h1:=heap_setCell_same _ g 1 _ t b1 h0
 have h2:=heap_setCell_same _ g 2 _ t b2 h1
 have h3:=heap_setCell_same _ g 3 _ t b3 h2
 have h4:=heap_setCell_same _ g 4 _ t b4 h3
 have h5:=heap_setCell_same _ g 5 _ t b5 h4
 have h6:=heap_setCell_same _ g 6 _ t b6 h5
 have h7:=heap_setCell_same _ g 7 _ t b7 h6
 have h8:=heap_setCell_same _ g 8 _ t b8 h7
 unfold nine
 simpa using h8
theorem hid6 {a b c d e f:Prop} (h0:a) (h1:b) (h2:c) (h3:d) (h4:e) (h5:f):Hid (a∧b∧c∧d∧e∧f):=⟨h0,h1,h2,h3,h4,h5⟩
theorem nine_new {w:World} {g:Nat} {t:TypeId} {a0 a1 a2 a3 a4 a5 a6 a7 a8:Value} (h:w.heap[g]?=some (.cells #[a0,a1,a2,a3,a4,a5,a6,a7,a8] t (0,0))) (b0 b1 b2 b3 b4 b5 b6 b7 b8:Value):∃ z,z=nine w g b0 b1 b2 b3 b4 b5 b6 b7 b8∧z.heap[g]?=some (.cells #[b0,b1,b2,b3,b4,b5,b6,b7,b8] t (0,0))∧∀ (k:Nat) (o:Obj),k≠g→w.heap[k]?=some o→z.heap[k]?=some o:=⟨_,rfl,nineP_set h b0 b1 b2 b3 b4 b5 b6 b7 b8,fun k o hk ho=>(nine_heap w g b0 b1 b2 b3 b4 b5 b6 b7 b8 hk).trans ho⟩
theorem nine_own {w:World} {B g n s:Nat} {e:TypeId} {v:Value} {xs:List Value} (h:w.ownsRow B e s v n xs) (hg:g<B) (b0 b1 b2 b3 b4 b5 b6 b7 b8:Value):(nine w g b0 b1 b2 b3 b4 b5 b6 b7 b8).ownsRow B e s v n xs :=
 zd2 h fun b hb=>nine_heap w g _ _ _ _ _ _ _ _ _ (by have:=(h.lt b hb).1;omega)
theorem nine_ok {w0 w:World} {g:Nat} (h:Ok w0 w) (hg:w0.heap.size≤g) (b0 b1 b2 b3 b4 b5 b6 b7 b8:Value):Ok w0 (nine w g b0 b1 b2 b3 b4 b5 b6 b7 b8) :=
 ((((((((h.set hg _).set hg _).set hg _).set hg _).set hg _).set hg _).set hg _).set hg _).set hg _
theorem nine_warm {w:World} {g:Nat} {t:TypeId} {cs:Array Value} (h:w.heap[g]?=some (.cells cs t (0,0))):∀ j,w.frozen? ⟨g,j,none⟩=false:=fun j=>frozen_of_row _ _ _ _ _ h
end Go.Proofs.YtgobgdljckamkaaGreatDoor
