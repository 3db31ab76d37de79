import Derived.Test.YtpjpjhjjhoeijaaGreatKNp
set_option maxHeartbeats 8000000
set_option linter.all false
namespace Go.Proofs.YtpjpjhjjhoeijaaGreat
section
open Go.RowKit
set_option maxRecDepth 100000 in
theorem nmeet_bot (a b:Int×Int×Nat×Nat×Bool) (ha:RawN a) (hb:RawN b) (hbb:(normN b).2.2.2.2=true) (w0 w:World) (hok:Ok w0 w) :
  Calls Tryz.prog 23 #[nv a,nv b] w fun e w'=>e=.returned (nv botN)/\Ok w0 w':=by
 have hle:=hok.le
 have HU:Hid _:=And.intro ha hb
 clear ha hb
 obtain ⟨x,hx⟩:∃ x,x=normN a:=⟨_,rfl⟩
 obtain ⟨y,hy⟩:∃ x,x=normN b:=⟨_,rfl⟩
 have HYT:Hid (y.2.2.2.2=true):=by rw [hy];exact hbb
 have RX:Hid (RawN x/\RawN y):=by rw [hx,hy];exact ⟨normN_raw HU.out.1,normN_raw HU.out.2⟩
 have NX:Hid (NormN x/\NormN y):=by rw [hx,hy];exact ⟨normN_norm HU.out.1,normN_norm HU.out.2⟩
 have HX:Hid _:=hx
 have HY:Hid _:=hy
 clear hx hy
 unfold nv
 go_enter Tryz.func23,Tryz.ntmps23
 go_wp2_with fail
 obtain ⟨W,hW⟩:∃ W,W=(((w).alloc (.cells #[.bool a.2.2.2.2,.int .i64 a.1,.int .i64 a.2.1,.int .u64 (a.2.2.1:Int),.int .u64 (a.2.2.2.1:Int)] 29)).alloc (.cells #[.bool b.2.2.2.2,.int .i64 b.1,.int .i64 b.2.1,.int .u64 (b.2.2.1:Int),.int .u64 (b.2.2.2.1:Int)] 29)).alloc (.cells #[.bool false,.int .i64 0,.int .i64 0,.int .u64 0,.int .u64 0] 29):=⟨_,rfl⟩
 have ra:Hid (W.heap[w.heap.size]?=some (.cells #[.bool a.2.2.2.2,.int .i64 a.1,.int .i64 a.2.1,.int .u64 (a.2.2.1:Int),.int .u64 (a.2.2.2.1:Int)] 29)):=by unfold Hid;rw [hW];exact jj
 have rb:Hid (W.heap[w.heap.size+1]?=some (.cells #[.bool b.2.2.2.2,.int .i64 b.1,.int .i64 b.2.1,.int .u64 (b.2.2.1:Int),.int .u64 (b.2.2.2.1:Int)] 29)):=by unfold Hid;rw [hW];exact jj
 have rz:Hid (W.heap[w.heap.size+1+1]?=some (.cells #[.bool false,.int .i64 0,.int .i64 0,.int .u64 0,.int .u64 0] 29)):=by unfold Hid;rw [hW];exact jj
 have HW:Hid (Ok w0 W):=by unfold Hid;rw [hW];exact (by repeat (first | exact hok | refine Ok.alloc ?_ _ | refine Ok.draws ?_ _ | fail))
 rw [<-hW]
 clear hW
 obtain ⟨gz,egz⟩:∃ g,g=w.heap.size+1+1:=⟨_,rfl⟩
 rw [<-egz] at rz ⊢
 obtain ⟨gb,egb⟩:∃ g,g=w.heap.size+1:=⟨_,rfl⟩
 rw [<-egb] at rb ⊢
 obtain ⟨ga,ega⟩:∃ g,g=w.heap.size:=⟨_,rfl⟩
 rw [<-ega] at ra ⊢
 have lga:w0.heap.size<=ga:=by omega
 have ngagb:¬ga=gb:=by omega
 have ngagz:¬ga=gz:=by omega
 have lgb:w0.heap.size<=gb:=by omega
 have ngbga:¬gb=ga:=by omega
 have ngbgz:¬gb=gz:=by omega
 have lgz:w0.heap.size<=gz:=by omega
 have ngzga:¬gz=ga:=by omega
 have ngzgb:¬gz=gb:=by omega
 clear ega egb egz
 apply wp_cutN (fun w1=>Hid (Ok w0 w1/\w1.heap[ga]?=some (.cells #[.bool x.2.2.2.2,.int .i64 x.1,.int .i64 x.2.1,.int .u64 (x.2.2.1:Int),.int .u64 (x.2.2.2.1:Int)] 29)/\w1.heap[gb]?=some (.cells #[.bool y.2.2.2.2,.int .i64 y.1,.int .i64 y.2.1,.int .u64 (y.2.2.1:Int),.int .u64 (y.2.2.2.1:Int)] 29)/\(∀ (h:Nat) (o:Obj),h≠ga->h≠gb->W.heap[h]?=some o->w1.heap[h]?=some o)))
 case h1 =>
  obtain ⟨a0,a1,a2,a3,a4,a5,a6,a7,a8,a9⟩:=row5_facts ra.out
  obtain ⟨b0,b1,b2,b3,b4,b5,b6,b7,b8,b9⟩:=row5_facts rb.out
  have bz:Ok W W:=Ok.refl _
  go_region_with (go_at_call 13;refine (nnorm_any _ (by first | exact HU.out.1 | exact HU.out.2) W _ (by first | assumption | exact Below.drew (by assumption))).mono ?_;rintro e w1 ⟨rfl,hb⟩;(first | rw [<-HX.out] | rw [<-HY.out]);unfold nv;obtain ⟨a0,a1,a2,a3,a4,a5,a6,a7,a8,a9⟩:=row5_facts (Ok.row' hb ra.out);obtain ⟨b0,b1,b2,b3,b4,b5,b6,b7,b8,b9⟩:=row5_facts (Ok.row' hb rb.out))
  all_goals exact ⟨rfl,rows_put2 (by omega) ra.out rb.out hb HW.out (by omega) (by omega) _ _ _ _ _ _ _ _ _ _⟩
 case h2 =>
  rintro Z H
  obtain ⟨HZ,raz,rbz,keep⟩:=H.out
  replace HZ:Hid (Ok w0 Z):=HZ
  replace raz:Hid _:=raz
  replace rbz:Hid _:=rbz
  replace rz:Hid _:=keep _ _ (by omega) (by omega) rz.out
  clear H ra rb keep
  obtain ⟨a0,a1,a2,a3,a4,a5,a6,a7,a8,a9⟩:=row5_facts raz.out
  obtain ⟨b0,b1,b2,b3,b4,b5,b6,b7,b8,b9⟩:=row5_facts rbz.out
  obtain ⟨k0,k1,k2,k3,k4,k5,k6,k7,k8,k9⟩:=row5_facts rz.out
  cases hxb:x.2.2.2.2
  ·rw [hxb] at a0
   have hyb:=HYT.out
   rw [hyb] at b0
   go_wp2_with fail
   refine (nbot_any Z _ (by repeat (first | exact Ok.refl _ | refine Ok.alloc ?_ _ | refine Ok.draws ?_ _ | fail))).mono ?_
   rintro e z9 ⟨rfl,hb⟩
   have hr:Hid _:=Ok.row' hb rz.out
   obtain ⟨k0,k1,k2,k3,k4,k5,k6,k7,k8,k9⟩:=row5_facts hr.out
   unfold nv botN
   go_wp2_with fail
   (try simp only [Exit.inBlock, Exit.then]); refine bodyPost_ret (results_cell_row rfl _ _ (gz) 29 #[_, _, _, _, _] (0, 0) _ rfl (row_set5 hr.out _ _ _ _ _) Tryz.underlying29 rfl infoN) rfl ?_
   exact ⟨rfl,Ok.set (Ok.set (Ok.set (Ok.set (Ok.set (HZ.out.step hb) (show w0.heap.size<=gz by omega) _) (show w0.heap.size<=gz by omega) _) (show w0.heap.size<=gz by omega) _) (show w0.heap.size<=gz by omega) _) (show w0.heap.size<=gz by omega) _⟩
  ·rw [hxb] at a0
   go_wp2_with fail
   refine (nbot_any Z _ (by repeat (first | exact Ok.refl _ | refine Ok.alloc ?_ _ | refine Ok.draws ?_ _ | fail))).mono ?_
   rintro e z9 ⟨rfl,hb⟩
   have hr:Hid _:=Ok.row' hb rz.out
   obtain ⟨k0,k1,k2,k3,k4,k5,k6,k7,k8,k9⟩:=row5_facts hr.out
   unfold nv botN
   go_wp2_with fail
   (try simp only [Exit.inBlock, Exit.then]); refine bodyPost_ret (results_cell_row rfl _ _ (gz) 29 #[_, _, _, _, _] (0, 0) _ rfl (row_set5 hr.out _ _ _ _ _) Tryz.underlying29 rfl infoN) rfl ?_
   exact ⟨rfl,Ok.set (Ok.set (Ok.set (Ok.set (Ok.set (HZ.out.step hb) (show w0.heap.size<=gz by omega) _) (show w0.heap.size<=gz by omega) _) (show w0.heap.size<=gz by omega) _) (show w0.heap.size<=gz by omega) _) (show w0.heap.size<=gz by omega) _⟩
end
section
open Go.RowKit
theorem cnt_set:∀ (l:List Bool) (i:Nat),l[i]?=some false->(l.set i true).count false+1=l.count false
 | [],i,h=>by simp at h
 | b::l,0,h=>by
  simp at h
  subst h
  simp
 | b::l,i+1,h=>by
  have h':l[i]?=some false:=by simpa using h
  have:=cnt_set l i h'
  cases b<;>simp_all<;>omega
theorem getD_false {l:Array Bool} {i:Nat} (h:l.getD i true=false):l.toList[i]?=some false:=by
 rw [Array.getElem?_toList]
 rw [Array.getD_eq_getD_getElem?] at h
 cases e:l[i]? with
 | none=>rw [e] at h;cases h
 | some b=>rw [e] at h;simp at h;rw [h]
section
variable {P:Program} {ops:Array Oper} {Q:Exit->Act->World->Prop} {md:Region.Mode}
theorem wpAny_inv {I:Array Bool->Act->World->Prop}
  (step:∀ (l:Array Bool) (a:Act) (w:World) (i:Nat),I l a w->i∈Region.ready md ops l->∀ K:Act->World->Prop,(∀ a' w',I (l.setIfInBounds i true) a' w'->K a' w')->wpOp P ops Q i K a w)
  (fin:∀ (l:Array Bool) (a:Act) (w:World),I l a w->Region.ready md ops l=[]->Q .normal a w) :
  ∀ (fuel:Nat) (l:Array Bool) (a:Act) (w:World),I l a w->l.toList.count false<=fuel->wpAny P md ops Q fuel l a w
 | 0,l,a,w,h,hf=>by
  have e:Region.ready md ops l=[]:=by
   apply List.eq_nil_iff_forall_not_mem.2
   intro i hi
   have:=List.count_pos_iff.2 (List.mem_of_getElem? (getD_false (mem_ready.1 hi).1))
   omega
  exact ⟨e,fin l a w h e⟩
 | fuel+1,l,a,w,h,hf=>by
  refine ⟨fin l a w h,fun i hi=>step l a w i h hi _ (fun a' w' h'=>wpAny_inv step fin fuel _ a' w' h' ?_)⟩
  have:=cnt_set l.toList i (getD_false (mem_ready.1 hi).1)
  rw [Array.toList_setIfInBounds]
  omega
def Back (md:Region.Mode) (ops:Array Oper):Bool:=(List.range ops.size).all fun i=>((ops[i]?).map (·.after.all fun e => !Region.binds md e||decide (e.on<i))).getD true
theorem all_listed (hb:Back md ops=true) {l:Array Bool} (hs:l.size=ops.size) (hr:Region.ready md ops l=[]):∀ i,i<ops.size->l.getD i true=true:=by
 intro i
 induction i using Nat.strongRecOn with
 | _ i ih =>
  intro hi
  cases c:l.getD i true with
  | true=>rfl
  | false =>
   exfalso
   have hn:i ∉ Region.ready md ops l:=by rw [hr];simp
   apply hn
   rw [mem_ready]
   refine ⟨c,ops[i],Array.getElem?_eq_getElem hi,fun e he hbd=>?_⟩
   have hb':=List.all_eq_true.1 hb i (List.mem_range.2 hi)
   rw [Array.getElem?_eq_getElem hi] at hb'
   simp only [Option.map_some,Option.getD_some,Array.all_eq_true_iff_forall_mem] at hb'
   have h1:=hb' e he
   rw [hbd] at h1
   have hlt:e.on<i:=by simpa using h1
   have h2:=ih e.on hlt (by omega)
   rw [Array.getD_eq_getD_getElem?,Array.getElem?_eq_getElem (by omega)] at h2 ⊢
   simpa using h2
theorem wp_region_inv {id:Nat} {F:Act} {W:World} (hm:P.follows .mixedOrders=true) (hg:ops.all (·.guard.isNone)=true) (I:Act->Array Bool->Act->World->Prop)
  (start:I F (Array.replicate ops.size false) F { W with drawn:=W.drawn+1 })
  (step:∀ (l:Array Bool) (a:Act) (w:World) (i:Nat) (o:Oper),I F l a w->l.getD i true=false->ops[i]?=some o->(∀ e∈o.after,Region.binds .any e=true->l.getD e.on false=true)->∀ K':Act->World->Prop,Shut (∀ a' w',I F (l.setIfInBounds i true) a' w'->K' a' w')->Oper.wp P o a w K' Q)
  (fin:∀ (l:Array Bool) (a:Act) (w:World),I F l a w->Region.ready .any ops l=[]->Q .normal a w):(Code.region id ops true).wp P Q F W:=by
 refine wp_region_any hm (wpAny_inv (I:=I F) (fun l a w i h hi K hK=>?_) fin _ _ _ _ start ?_)
 ·obtain ⟨h0,o,ho,hd⟩:=mem_ready.1 hi
  refine wpOp_step ho (fun K' hK'=>?_)
  have hn:o.guard=none:=by
   have:=Array.all_eq_true_iff_forall_mem.1 hg o (Array.mem_of_getElem? ho)
   simpa using this
  rw [if_pos (by unfold Region.wanted;rw [hn])]
  exact step l a w i o h h0 ho hd K' (fun a' w' h'=>hK' a' w' (hK a' w' h'))
 ·simp
end
def PR (W w:World) (s:Value) (cs:Array Value) (t:TypeId):Prop:=∃ g,s=.pointer (some ⟨g,0,none⟩)/\W.heap.size<=g/\w.heap[g]?=some (.cells cs t (0,0))
theorem PR.elim {C:Prop} {W w:World} {s:Value} {cs:Array Value} {t:TypeId} (h:PR W w s cs t) (k:∀ g,s=.pointer (some ⟨g,0,none⟩)->W.heap.size<=g->w.heap[g]?=some (.cells cs t (0,0))->C):C:=by
 obtain ⟨g,e,l,r⟩:=h
 exact k g e l r
theorem PR.step {W w w':World} {s:Value} {cs:Array Value} {t:TypeId} (h:PR W w s cs t) (hb:Ok w w'):PR W w' s cs t:=by
 obtain ⟨g,e,l,r⟩:=h
 exact ⟨g,e,l,Ok.row' hb r⟩
theorem PR.new {W w:World} {cs:Array Value} {t:TypeId} (h:Ok W w):PR W (w.alloc (.cells cs t (0,0))) (.pointer (some ⟨w.heap.size,0,none⟩)) cs t:=⟨w.heap.size,rfl,h.le,heap_new0 _ _⟩
theorem PR.keep {W w w':World} {s:Value} {cs:Array Value} {t:TypeId} {g:Nat} (h:PR W w s cs t) (hs:s≠.pointer (some ⟨g,0,none⟩)) (k:∀ (h:Nat) (o:Obj),h≠g->w.heap[h]?=some o->w'.heap[h]?=some o):PR W w' s cs t:=by
 obtain ⟨h1,e,l,r⟩:=h
 refine ⟨h1,e,l,k _ _ (fun c=>hs ?_) r⟩
 rw [e,c]
end
section
open Go.RowKit
theorem nfld (w:World):(Instr.field 29 (.agg #[.bool true,.int .i64 0,.int .i64 0,.int .u64 0,.int .u64 0]) 0).run Tryz.prog w=.ok (.bool true) w:=by kernel_rfl
attribute [local go_sem] nfld
theorem k13_make:makeN 1 10 4 3=(3,7,4,3,false):=by kernel_rfl
theorem k13_add:ap2 addN (normN (3,7,4,3,false)) (normN (constN 1))=(4,8,4,0,false):=by kernel_rfl
theorem k13_has:insN (3,7,4,3,false) 7=true:=by kernel_rfl
theorem k13_leq:lqN (constN 3) (3,7,4,3,false)=true:=by kernel_rfl
theorem k13_join:joinN (constN 3) (constN 7)=(3,7,4,3,false):=by kernel_rfl
theorem k13_nz:nonZeroN (constN 0)=botN:=by kernel_rfl
theorem k13_raw:RawN (3,7,4,3,false):=by unfold RawN In64 U64;decide
theorem k13_in0:In64 0:=by decide
theorem k13_in1:In64 1:=by decide
theorem k13_in3:In64 3:=by decide
theorem k13_in7:In64 7:=by decide
set_option maxRecDepth 100000 in
theorem works13 (w0 w:World) (hok:Ok w0 w) :
  Calls Tryz.prog 6 #[] w fun e w'=>e=.returned (.bool true)/\Ok w0 w':=by
 have hle:=hok.le
 have HK:Hid (Ok w0 w):=hok
 clear hok
 go_enter Tryz.func6,Tryz.ntmps6
 go_wp2_with fail
 refine (nmake_any 1 10 4 3 (by decide) (by decide) (by unfold U64;decide) (by unfold U64;decide) w _ (Ok.refl _)).mono ?_
 rintro e w1 ⟨rfl,hb⟩
 rw [k13_make]
 unfold nv
 have Hw1:Hid (Ok w0 w1):=HK.out.step hb
 clear hb
 go_wp2_with fail
 obtain ⟨W,hW⟩:∃ W,W=w1.alloc (.cells #[.bool false,.int .i64 3,.int .i64 7,.int .u64 4,.int .u64 3] 29):=⟨_,rfl⟩
 have ra:Hid (W.heap[w1.heap.size]?=some (.cells #[.bool false,.int .i64 3,.int .i64 7,.int .u64 4,.int .u64 3] 29)):=by unfold Hid;rw [hW];exact heap_new0 _ _
 have HW:Hid (Ok w0 W):=by unfold Hid;rw [hW];exact Hw1.out.alloc _
 rw [<-hW]
 obtain ⟨ga,ega⟩:∃ g,g=w1.heap.size:=⟨_,rfl⟩
 have lga:w0.heap.size<=ga:=by rw [ega];exact Hw1.out.le
 rw [<-ega] at ra ⊢
 clear hW ega Hw1
 refine wp_region_inv (by kernel_rfl) (by kernel_rfl) (fun F l a w=>∃ (b0 b1 b2 b3 b4 b5 b6 b7 b8:Bool) (s8 s9 s10 s7 s11 s12 s2 s3:Value) (g6:Nat),l=#[b0,b1,b2,b3,b4,b5,b6,b7,b8]/\a=((((((((F.put (some 8) s8).put (some 9) s9).put (some 10) s10).put (some 7) s7).put (some 11) s11).put (some 12) s12).put (some 2) s2).put (some 3) s3)/\Ok W w/\(b0=true->s8=nv (3,7,4,3,false))/\(b1=true->s9=nv (constN 1))/\(b2=true->s10=.tuple #[nv (4,8,4,0,false),.int .i64 0])/\(b3=true->s7=.tuple #[nv (4,8,4,0,false),.int .i64 0])/\(b4=true->s11=nv (4,8,4,0,false))/\(b5=true->s12=.int .i64 0)/\(b8=true->s3=.int .i64 0)/\(b6=true->s2=.pointer (some ⟨g6,0,none⟩))/\(b6=true->W.heap.size<=g6)/\(b6=true->b7=false->w.heap[g6]?=some (.cells #[.bool false,.int .i64 0,.int .i64 0,.int .u64 0,.int .u64 0] 29 (0,0)))/\(b7=true->w.heap[g6]?=some (.cells #[.bool false,.int .i64 4,.int .i64 8,.int .u64 4,.int .u64 0] 29 (0,0)))/\(b7=true->b6=true)) ?start ?step ?fin
 case start=>exact ⟨false,false,false,false,false,false,false,false,false,undef,undef,undef,undef,undef,undef,undef,undef,0,rfl,(by (try simp only [Act.put,List.setIfInBounds_toArray,List.set_cons_zero,List.set_cons_succ]);try rfl),Ok.draws (Ok.refl _) 1,(fun h=>by cases h),(fun h=>by cases h),(fun h=>by cases h),(fun h=>by cases h),(fun h=>by cases h),(fun h=>by cases h),(fun h=>by cases h),(fun h=>by cases h),(fun h=>by cases h),(fun h=>by cases h),(fun h=>by cases h),(fun h=>by cases h)⟩
 case step =>
  intro l a w i o hI hi0 ho hd K hK
  obtain ⟨b0,b1,b2,b3,b4,b5,b6,b7,b8,s8,s9,s10,s7,s11,s12,s2,s3,g6,rfl,rfl,hO,q0,q1,q2,q3,q4,q5,q8,p6,l6,q6,q7,m7⟩:=hI
  have hlt:i<9:=(Array.getElem?_eq_some_iff.1 ho).1
  rcases (show i=0\/i=1\/i=2\/i=3\/i=4\/i=5\/i=6\/i=7\/i=8 by omega) with rfl | rfl | rfl | rfl | rfl | rfl | rfl | rfl | rfl
  ·have ho2:=Option.some.inj ho
   subst ho2
   have f0:b0=false:=hi0
   clear ho hlt hd hi0
   have zz:=row5_facts (Ok.row' hO ra.out)
   have a0:=zz.1
   have a1:=zz.2.1
   have a2:=zz.2.2.1
   have a3:=zz.2.2.2.1
   have a4:=zz.2.2.2.2.1
   have a5:=zz.2.2.2.2.2.1
   have a6:=zz.2.2.2.2.2.2.1
   have a7:=zz.2.2.2.2.2.2.2.1
   have a8:=zz.2.2.2.2.2.2.2.2.1
   have a9:=zz.2.2.2.2.2.2.2.2.2
   clear zz
   (try simp only [Act.put,List.getElem_toArray,List.getElem_cons_succ,List.getElem_cons_zero,List.setIfInBounds_toArray,List.set_cons_zero,List.set_cons_succ])
   go_simp
   refine hK.out _ _ ?_
   exact ⟨true,b1,b2,b3,b4,b5,b6,b7,b8,nv (3,7,4,3,false),s9,s10,s7,s11,s12,s2,s3,g6,rfl,(by (try simp only [Act.put,List.setIfInBounds_toArray,List.set_cons_zero,List.set_cons_succ]);try rfl),hO,(fun _=>rfl),q1,q2,q3,q4,q5,q8,p6,l6,q6,q7,m7⟩
  ·have ho2:=Option.some.inj ho
   subst ho2
   have f1:b1=false:=hi0
   clear ho hlt hd hi0
   (try simp only [Act.put,List.getElem_toArray,List.getElem_cons_succ,List.getElem_cons_zero,List.setIfInBounds_toArray,List.set_cons_zero,List.set_cons_succ])
   go_simp
   refine (nconst_any 1 w _ (Ok.refl _)).mono ?_
   rintro e w' ⟨rfl,hb⟩
   dsimp only
   refine hK.out _ _ ?_
   exact ⟨b0,true,b2,b3,b4,b5,b6,b7,b8,s8,nv (constN 1),s10,s7,s11,s12,s2,s3,g6,rfl,(by (try simp only [Act.put,List.setIfInBounds_toArray,List.set_cons_zero,List.set_cons_succ]);try rfl),hO.step hb,q0,(fun _=>rfl),q2,q3,q4,q5,q8,p6,l6,(fun h1 h2=>Ok.row' hb (q6 h1 h2)),(fun h1=>Ok.row' hb (q7 h1)),m7⟩
  ·have ho2:=Option.some.inj ho
   subst ho2
   have f2:b2=false:=hi0
   have t0:b0=true:=hd ⟨0,.data⟩ (by simp) rfl
   have t1:b1=true:=hd ⟨1,.data⟩ (by simp) rfl
   clear ho hlt hd hi0
   have e0:=q0 t0
   subst e0
   have e1:=q1 t1
   subst e1
   (try simp only [Act.put,List.getElem_toArray,List.getElem_cons_succ,List.getElem_cons_zero,List.setIfInBounds_toArray,List.set_cons_zero,List.set_cons_succ])
   go_simp
   refine (napply_add (3,7,4,3,false) (constN 1) k13_raw (const_raw k13_in1) w _ (Ok.refl _)).mono ?_
   rintro e w' ⟨rfl,hb⟩
   rw [k13_add]
   dsimp only
   refine hK.out _ _ ?_
   exact ⟨b0,b1,true,b3,b4,b5,b6,b7,b8,nv (3,7,4,3,false),nv (constN 1),.tuple #[nv (4,8,4,0,false),.int .i64 0],s7,s11,s12,s2,s3,g6,rfl,(by (try simp only [Act.put,List.setIfInBounds_toArray,List.set_cons_zero,List.set_cons_succ]);try rfl),hO.step hb,q0,q1,(fun _=>rfl),q3,q4,q5,q8,p6,l6,(fun h1 h2=>Ok.row' hb (q6 h1 h2)),(fun h1=>Ok.row' hb (q7 h1)),m7⟩
  ·have ho2:=Option.some.inj ho
   subst ho2
   have f3:b3=false:=hi0
   have t2:b2=true:=hd ⟨2,.data⟩ (by simp) rfl
   clear ho hlt hd hi0
   have e2:=q2 t2
   subst e2
   (try simp only [Act.put,List.getElem_toArray,List.getElem_cons_succ,List.getElem_cons_zero,List.setIfInBounds_toArray,List.set_cons_zero,List.set_cons_succ])
   go_simp
   refine hK.out _ _ ?_
   exact ⟨b0,b1,b2,true,b4,b5,b6,b7,b8,s8,s9,.tuple #[nv (4,8,4,0,false),.int .i64 0],.tuple #[nv (4,8,4,0,false),.int .i64 0],s11,s12,s2,s3,g6,rfl,(by (try simp only [Act.put,List.setIfInBounds_toArray,List.set_cons_zero,List.set_cons_succ]);try rfl),hO,q0,q1,q2,(fun _=>rfl),q4,q5,q8,p6,l6,q6,q7,m7⟩
  ·have ho2:=Option.some.inj ho
   subst ho2
   have f4:b4=false:=hi0
   have t3:b3=true:=hd ⟨3,.data⟩ (by simp) rfl
   clear ho hlt hd hi0
   have e3:=q3 t3
   subst e3
   (try simp only [Act.put,List.getElem_toArray,List.getElem_cons_succ,List.getElem_cons_zero,List.setIfInBounds_toArray,List.set_cons_zero,List.set_cons_succ])
   go_simp
   refine hK.out _ _ ?_
   exact ⟨b0,b1,b2,b3,true,b5,b6,b7,b8,s8,s9,s10,.tuple #[nv (4,8,4,0,false),.int .i64 0],nv (4,8,4,0,false),s12,s2,s3,g6,rfl,(by (try simp only [Act.put,List.setIfInBounds_toArray,List.set_cons_zero,List.set_cons_succ]);try rfl),hO,q0,q1,q2,q3,(fun _=>rfl),q5,q8,p6,l6,q6,q7,m7⟩
  ·have ho2:=Option.some.inj ho
   subst ho2
   have f5:b5=false:=hi0
   have t3:b3=true:=hd ⟨3,.data⟩ (by simp) rfl
   clear ho hlt hd hi0
   have e3:=q3 t3
   subst e3
   (try simp only [Act.put,List.getElem_toArray,List.getElem_cons_succ,List.getElem_cons_zero,List.setIfInBounds_toArray,List.set_cons_zero,List.set_cons_succ])
   go_simp
   refine hK.out _ _ ?_
   exact ⟨b0,b1,b2,b3,b4,true,b6,b7,b8,s8,s9,s10,.tuple #[nv (4,8,4,0,false),.int .i64 0],s11,.int .i64 0,s2,s3,g6,rfl,(by (try simp only [Act.put,List.setIfInBounds_toArray,List.set_cons_zero,List.set_cons_succ]);try rfl),hO,q0,q1,q2,q3,q4,(fun _=>rfl),q8,p6,l6,q6,q7,m7⟩
  ·have ho2:=Option.some.inj ho
   subst ho2
   have f6:b6=false:=hi0
   clear ho hlt hd hi0
   (try simp only [Act.put,List.getElem_toArray,List.getElem_cons_succ,List.getElem_cons_zero,List.setIfInBounds_toArray,List.set_cons_zero,List.set_cons_succ])
   go_simp
   refine hK.out _ _ ?_
   exact ⟨b0,b1,b2,b3,b4,b5,true,b7,b8,s8,s9,s10,s7,s11,s12,.pointer (some ⟨w.heap.size,0,none⟩),s3,w.heap.size,rfl,(by (try simp only [Act.put,List.setIfInBounds_toArray,List.set_cons_zero,List.set_cons_succ]);try rfl),hO.alloc _,q0,q1,q2,q3,q4,q5,q8,(fun _=>rfl),(fun _=>hO.le),(fun _ _=>heap_new0 _ _),(fun h=>by rw [m7 h] at f6;cases f6),(fun _=>rfl)⟩
  ·have ho2:=Option.some.inj ho
   subst ho2
   have f7:b7=false:=hi0
   have t4:b4=true:=hd ⟨4,.data⟩ (by simp) rfl
   have t6:b6=true:=hd ⟨6,.data⟩ (by simp) rfl
   clear ho hlt hd hi0
   have e4:=q4 t4
   subst e4
   have e6:=p6 t6
   subst e6
   have rg:=q6 t6 f7
   (try unfold nv)
   have zz:=row5_facts (rg)
   have y0:=zz.1
   have y1:=zz.2.1
   have y2:=zz.2.2.1
   have y3:=zz.2.2.2.1
   have y4:=zz.2.2.2.2.1
   have y5:=zz.2.2.2.2.2.1
   have y6:=zz.2.2.2.2.2.2.1
   have y7:=zz.2.2.2.2.2.2.2.1
   have y8:=zz.2.2.2.2.2.2.2.2.1
   have y9:=zz.2.2.2.2.2.2.2.2.2
   clear zz
   (try simp only [Act.put,List.getElem_toArray,List.getElem_cons_succ,List.getElem_cons_zero,List.setIfInBounds_toArray,List.set_cons_zero,List.set_cons_succ])
   go_simp
   have hrp:=rows_put1 (Z:=(((((w.setCell ⟨g6,0,none⟩ (.bool false)).setCell ⟨g6,1,none⟩ (.int .i64 4)).setCell ⟨g6,2,none⟩ (.int .i64 8)).setCell ⟨g6,3,none⟩ (.int .u64 4)).setCell ⟨g6,4,none⟩ (.int .u64 0))) rg hO (l6 t6) _ _ _ _ _ rfl
   refine hK.out _ _ ?_
   exact ⟨b0,b1,b2,b3,b4,b5,b6,true,b8,s8,s9,s10,s7,nv (4,8,4,0,false),s12,.pointer (some ⟨g6,0,none⟩),s3,g6,rfl,(by (try simp only [Act.put,List.setIfInBounds_toArray,List.set_cons_zero,List.set_cons_succ]);try rfl),hrp.out.1,q0,q1,q2,q3,q4,q5,q8,(fun _=>rfl),l6,(fun _ h=>by cases h),(fun _=>hrp.out.2.1),(fun _=>t6)⟩
  ·have ho2:=Option.some.inj ho
   subst ho2
   have f8:b8=false:=hi0
   have t5:b5=true:=hd ⟨5,.data⟩ (by simp) rfl
   clear ho hlt hd hi0
   have e5:=q5 t5
   subst e5
   (try simp only [Act.put,List.getElem_toArray,List.getElem_cons_succ,List.getElem_cons_zero,List.setIfInBounds_toArray,List.set_cons_zero,List.set_cons_succ])
   go_simp
   refine hK.out _ _ ?_
   exact ⟨b0,b1,b2,b3,b4,b5,b6,b7,true,s8,s9,s10,s7,s11,.int .i64 0,s2,.int .i64 0,g6,rfl,(by (try simp only [Act.put,List.setIfInBounds_toArray,List.set_cons_zero,List.set_cons_succ]);try rfl),hO,q0,q1,q2,q3,q4,q5,(fun _=>rfl),p6,l6,q6,q7,m7⟩
 case fin =>
  intro l a V hI hr
  obtain ⟨b0,b1,b2,b3,b4,b5,b6,b7,b8,s8,s9,s10,s7,s11,s12,s2,s3,g6,rfl,rfl,hO,q0,q1,q2,q3,q4,q5,q8,p6,l6,q6,q7,m7⟩:=hI
  have hall:=all_listed (by kernel_rfl) rfl hr
  clear hr
  have t0:b0=true:=hall 0 (by decide)
  have t1:b1=true:=hall 1 (by decide)
  have t2:b2=true:=hall 2 (by decide)
  have t3:b3=true:=hall 3 (by decide)
  have t4:b4=true:=hall 4 (by decide)
  have t5:b5=true:=hall 5 (by decide)
  have t6:b6=true:=hall 6 (by decide)
  have t7:b7=true:=hall 7 (by decide)
  have t8:b8=true:=hall 8 (by decide)
  have e0:=q0 t0
  subst e0
  have e1:=q1 t1
  subst e1
  have e2:=q2 t2
  subst e2
  have e3:=q3 t3
  subst e3
  have e4:=q4 t4
  subst e4
  have e5:=q5 t5
  subst e5
  have e8:=q8 t8
  subst e8
  have e6:=p6 t6
  subst e6
  have r6:=q7 t7
  replace l6:=l6 t6
  clear hall t0 t1 t2 t3 t4 t5 t6 t7 t8 q0 q1 q2 q3 q4 q5 q8 p6 q6 q7 m7
  (try simp only [Act.put,List.getElem_toArray,List.getElem_cons_succ,List.getElem_cons_zero,List.setIfInBounds_toArray,List.set_cons_zero,List.set_cons_succ])
  have ra2:Hid _:=Ok.row' hO ra.out
  have rs:Hid _:=r6
  have HV:Hid (Ok w0 V):=HW.out.step hO
  have ng:¬g6=ga:=by have:=lt_row ra.out;omega
  have ng2:¬ga=g6:=by have:=lt_row ra.out;omega
  clear hO r6 l6 ra HW
  go_wp2_with fail
  obtain ⟨a0,a1,a2,a3,a4,a5,a6,a7,a8,a9⟩:=row5_facts ra2.out
  obtain ⟨s0,s1,s2,s3,s4,s5,s6,s7,s8,s9⟩:=row5_facts rs.out
  have za:=lt_row ra2.out
  have zs:=lt_row rs.out
  have bz:Ok V V:=Ok.refl _
  go_region_held3 (fun w'=>w'.cell? ⟨ga,0,none⟩=some (.bool false)/\w'.cell? ⟨ga,1,none⟩=some (.int .i64 3)/\w'.cell? ⟨ga,2,none⟩=some (.int .i64 7)/\w'.cell? ⟨ga,3,none⟩=some (.int .u64 4)/\w'.cell? ⟨ga,4,none⟩=some (.int .u64 3)/\w'.cell? ⟨g6,0,none⟩=some (.bool false)/\w'.cell? ⟨g6,1,none⟩=some (.int .i64 4)/\w'.cell? ⟨g6,2,none⟩=some (.int .i64 8)/\w'.cell? ⟨g6,3,none⟩=some (.int .u64 4)/\w'.cell? ⟨g6,4,none⟩=some (.int .u64 0)) (go_keep)
   (first
   | (go_at_call 20;refine (nhas_any (3,7,4,3,false) 7 k13_raw V _ (by repeat (first | assumption | refine Ok.alloc ?_ _ | refine Below.drew ?_))).mono ?_;rintro e w' ⟨rfl,hb⟩;rw [k13_has];have q0:=Ok.cell hb za a0;have q1:=Ok.cell hb za a1;have q2:=Ok.cell hb za a2;have q3:=Ok.cell hb za a3;have q4:=Ok.cell hb za a4;have q5:=Ok.cell hb zs s0;have q6:=Ok.cell hb zs s1;have q7:=Ok.cell hb zs s2;have q8:=Ok.cell hb zs s3;have q9:=Ok.cell hb zs s4)
   | (go_at_call 19;refine (nconst_any _ V _ (by repeat (first | assumption | refine Ok.alloc ?_ _ | refine Below.drew ?_))).mono ?_;rintro e w' ⟨rfl,hb⟩;have q0:=Ok.cell hb za a0;have q1:=Ok.cell hb za a1;have q2:=Ok.cell hb za a2;have q3:=Ok.cell hb za a3;have q4:=Ok.cell hb za a4;have q5:=Ok.cell hb zs s0;have q6:=Ok.cell hb zs s1;have q7:=Ok.cell hb zs s2;have q8:=Ok.cell hb zs s3;have q9:=Ok.cell hb zs s4)
   | (go_at_call 21;refine (nleq_any (constN 3) (3,7,4,3,false) (const_raw k13_in3) k13_raw V _ (by repeat (first | assumption | refine Ok.alloc ?_ _ | refine Below.drew ?_))).mono ?_;rintro e w' ⟨rfl,hb⟩;rw [k13_leq];have q0:=Ok.cell hb za a0;have q1:=Ok.cell hb za a1;have q2:=Ok.cell hb za a2;have q3:=Ok.cell hb za a3;have q4:=Ok.cell hb za a4;have q5:=Ok.cell hb zs s0;have q6:=Ok.cell hb zs s1;have q7:=Ok.cell hb zs s2;have q8:=Ok.cell hb zs s3;have q9:=Ok.cell hb zs s4)
   | (go_at_call 22;refine (njoin_any (constN 3) (constN 7) (const_raw k13_in3) (const_raw k13_in7) V _ (by repeat (first | assumption | refine Ok.alloc ?_ _ | refine Below.drew ?_))).mono ?_;rintro e w' ⟨rfl,hb⟩;rw [k13_join];unfold nv;have q0:=Ok.cell hb za a0;have q1:=Ok.cell hb za a1;have q2:=Ok.cell hb za a2;have q3:=Ok.cell hb za a3;have q4:=Ok.cell hb za a4;have q5:=Ok.cell hb zs s0;have q6:=Ok.cell hb zs s1;have q7:=Ok.cell hb zs s2;have q8:=Ok.cell hb zs s3;have q9:=Ok.cell hb zs s4)
   | (go_at_call 24;refine (nbot_any V _ (by repeat (first | assumption | refine Ok.alloc ?_ _ | refine Below.drew ?_))).mono ?_;rintro e w' ⟨rfl,hb⟩;have q0:=Ok.cell hb za a0;have q1:=Ok.cell hb za a1;have q2:=Ok.cell hb za a2;have q3:=Ok.cell hb za a3;have q4:=Ok.cell hb za a4;have q5:=Ok.cell hb zs s0;have q6:=Ok.cell hb zs s1;have q7:=Ok.cell hb zs s2;have q8:=Ok.cell hb zs s3;have q9:=Ok.cell hb zs s4)
   | (go_at_call 23;refine (nmeet_bot (3,7,4,3,false) botN k13_raw bot_raw (by kernel_rfl) V _ (by repeat (first | assumption | refine Ok.alloc ?_ _ | refine Below.drew ?_))).mono ?_;rintro e w' ⟨rfl,hb⟩;unfold nv botN;have q0:=Ok.cell hb za a0;have q1:=Ok.cell hb za a1;have q2:=Ok.cell hb za a2;have q3:=Ok.cell hb za a3;have q4:=Ok.cell hb za a4;have q5:=Ok.cell hb zs s0;have q6:=Ok.cell hb zs s1;have q7:=Ok.cell hb zs s2;have q8:=Ok.cell hb zs s3;have q9:=Ok.cell hb zs s4)
   | (go_at_call 25;refine (nnz_any (constN 0) (const_raw k13_in0) V _ (by repeat (first | assumption | refine Ok.alloc ?_ _ | refine Below.drew ?_))).mono ?_;rintro e w' ⟨rfl,hb⟩;rw [k13_nz];unfold nv botN;have q0:=Ok.cell hb za a0;have q1:=Ok.cell hb za a1;have q2:=Ok.cell hb za a2;have q3:=Ok.cell hb za a3;have q4:=Ok.cell hb za a4;have q5:=Ok.cell hb zs s0;have q6:=Ok.cell hb zs s1;have q7:=Ok.cell hb zs s2;have q8:=Ok.cell hb zs s3;have q9:=Ok.cell hb zs s4)
   | fail)
  go_wp2_with fail
  go_ret
  exact ⟨rfl,HV.out.step hb⟩
end
end Go.Proofs.YtpjpjhjjhoeijaaGreat
