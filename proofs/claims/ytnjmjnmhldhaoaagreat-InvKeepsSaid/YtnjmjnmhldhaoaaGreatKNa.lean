import Derived.Test.YtnjmjnmhldhaoaaGreatKJs
import Derived.Test.YtnjmjnmhldhaoaaGreatKNm
set_option maxHeartbeats 8000000
set_option linter.all false
namespace Go.Proofs.YtnjmjnmhldhaoaaGreat
open Go.RowKit
theorem infoO:(Tryz.prog.info? 142).map (·.size)=some 5:=by kernel_rfl
theorem nidx0 (w:World):(Instr.index 176 (.agg #[.int .i64 1,.bool true,.bool false,.func (.func 201) #[] #[],.func (.func 202) #[] #[],.int .i64 3,.bool false,.bool false,.func (.func 203) #[] #[],.func (.func 204) #[] #[],.int .i64 4,.bool false,.bool false,.func (.func 205) #[] #[],.func (.func 118) #[] #[],.int .i64 5,.bool false,.bool false,.func (.func 206) #[] #[],.func (.func 207) #[] #[],.int .i64 6,.bool false,.bool true,.func (.func 208) #[] #[],.func (.func 209) #[] #[],.int .i64 7,.bool false,.bool true,.func (.func 210) #[] #[],.func (.func 211) #[] #[]]) (.int .i64 0)).run Tryz.prog w=.ok (.agg #[.int .i64 1,.bool true,.bool false,.func (.func 201) #[] #[],.func (.func 202) #[] #[]]) w:=by kernel_rfl
theorem nidx1 (w:World):(Instr.index 176 (.agg #[.int .i64 1,.bool true,.bool false,.func (.func 201) #[] #[],.func (.func 202) #[] #[],.int .i64 3,.bool false,.bool false,.func (.func 203) #[] #[],.func (.func 204) #[] #[],.int .i64 4,.bool false,.bool false,.func (.func 205) #[] #[],.func (.func 118) #[] #[],.int .i64 5,.bool false,.bool false,.func (.func 206) #[] #[],.func (.func 207) #[] #[],.int .i64 6,.bool false,.bool true,.func (.func 208) #[] #[],.func (.func 209) #[] #[],.int .i64 7,.bool false,.bool true,.func (.func 210) #[] #[],.func (.func 211) #[] #[]]) (.int .i64 1)).run Tryz.prog w=.ok (.agg #[.int .i64 3,.bool false,.bool false,.func (.func 203) #[] #[],.func (.func 204) #[] #[]]) w:=by kernel_rfl
theorem nidx2 (w:World):(Instr.index 176 (.agg #[.int .i64 1,.bool true,.bool false,.func (.func 201) #[] #[],.func (.func 202) #[] #[],.int .i64 3,.bool false,.bool false,.func (.func 203) #[] #[],.func (.func 204) #[] #[],.int .i64 4,.bool false,.bool false,.func (.func 205) #[] #[],.func (.func 118) #[] #[],.int .i64 5,.bool false,.bool false,.func (.func 206) #[] #[],.func (.func 207) #[] #[],.int .i64 6,.bool false,.bool true,.func (.func 208) #[] #[],.func (.func 209) #[] #[],.int .i64 7,.bool false,.bool true,.func (.func 210) #[] #[],.func (.func 211) #[] #[]]) (.int .i64 2)).run Tryz.prog w=.ok (.agg #[.int .i64 4,.bool false,.bool false,.func (.func 205) #[] #[],.func (.func 118) #[] #[]]) w:=by kernel_rfl
theorem nidx3 (w:World):(Instr.index 176 (.agg #[.int .i64 1,.bool true,.bool false,.func (.func 201) #[] #[],.func (.func 202) #[] #[],.int .i64 3,.bool false,.bool false,.func (.func 203) #[] #[],.func (.func 204) #[] #[],.int .i64 4,.bool false,.bool false,.func (.func 205) #[] #[],.func (.func 118) #[] #[],.int .i64 5,.bool false,.bool false,.func (.func 206) #[] #[],.func (.func 207) #[] #[],.int .i64 6,.bool false,.bool true,.func (.func 208) #[] #[],.func (.func 209) #[] #[],.int .i64 7,.bool false,.bool true,.func (.func 210) #[] #[],.func (.func 211) #[] #[]]) (.int .i64 3)).run Tryz.prog w=.ok (.agg #[.int .i64 5,.bool false,.bool false,.func (.func 206) #[] #[],.func (.func 207) #[] #[]]) w:=by kernel_rfl
theorem nidx4 (w:World):(Instr.index 176 (.agg #[.int .i64 1,.bool true,.bool false,.func (.func 201) #[] #[],.func (.func 202) #[] #[],.int .i64 3,.bool false,.bool false,.func (.func 203) #[] #[],.func (.func 204) #[] #[],.int .i64 4,.bool false,.bool false,.func (.func 205) #[] #[],.func (.func 118) #[] #[],.int .i64 5,.bool false,.bool false,.func (.func 206) #[] #[],.func (.func 207) #[] #[],.int .i64 6,.bool false,.bool true,.func (.func 208) #[] #[],.func (.func 209) #[] #[],.int .i64 7,.bool false,.bool true,.func (.func 210) #[] #[],.func (.func 211) #[] #[]]) (.int .i64 4)).run Tryz.prog w=.ok (.agg #[.int .i64 6,.bool false,.bool true,.func (.func 208) #[] #[],.func (.func 209) #[] #[]]) w:=by kernel_rfl
theorem nidx5 (w:World):(Instr.index 176 (.agg #[.int .i64 1,.bool true,.bool false,.func (.func 201) #[] #[],.func (.func 202) #[] #[],.int .i64 3,.bool false,.bool false,.func (.func 203) #[] #[],.func (.func 204) #[] #[],.int .i64 4,.bool false,.bool false,.func (.func 205) #[] #[],.func (.func 118) #[] #[],.int .i64 5,.bool false,.bool false,.func (.func 206) #[] #[],.func (.func 207) #[] #[],.int .i64 6,.bool false,.bool true,.func (.func 208) #[] #[],.func (.func 209) #[] #[],.int .i64 7,.bool false,.bool true,.func (.func 210) #[] #[],.func (.func 211) #[] #[]]) (.int .i64 5)).run Tryz.prog w=.ok (.agg #[.int .i64 7,.bool false,.bool true,.func (.func 210) #[] #[],.func (.func 211) #[] #[]]) w:=by kernel_rfl
theorem run_store_fun (w:World) (a:Addr) (f:Fn) (x y:Array Value) (m:Mode):(store a (.func f x y) m).run Tryz.prog w=stored Tryz.prog w a (.func f x y) m:=run_store _ w a _ m rfl
attribute [local go_sem] run_store_fun
attribute [local go_sem] nidx0 nidx1 nidx2 nidx3 nidx4 nidx5
set_option maxRecDepth 100000 in
theorem find_neg (w0 w:World) (hok:Ok w0 w) :
  Calls Tryz.prog 155 #[.int .i64 1] w fun e w'=>e=.returned (.tuple #[.agg #[.int .i64 1,.bool true,.bool false,.func (.func 201) #[] #[],.func (.func 202) #[] #[]],.bool true])/\Ok w0 w':=by
 have hle:=hok.le
 go_enter Tryz.func155,Tryz.ntmps155
 go_wp2_with fail
 obtain ⟨W,hW⟩:∃ W,W=(w).alloc (.cells #[.int .i64 0,.bool false,.bool false,.nilFunc,.nilFunc] 142):=⟨_,rfl⟩
 have rz:Hid (W.heap[w.heap.size]?=some (.cells #[.int .i64 0,.bool false,.bool false,.nilFunc,.nilFunc] 142)):=by unfold Hid;rw [hW];exact jj
 have HW:Hid (Ok w0 W):=by unfold Hid;rw [hW];exact (by repeat (first | exact hok | refine Ok.alloc ?_ _ | refine Ok.draws ?_ _ | fail))
 rw [<-hW]
 clear hW
 obtain ⟨gz,egz⟩:∃ g,g=w.heap.size:=⟨_,rfl⟩
 rw [<-egz] at rz ⊢
 have lgz:w0.heap.size<=gz:=by omega
 clear egz
 go_loopw [19] (fun a wr=>∃ k:Nat,k<=0/\a=.int .i64 (k:Int)/\Hid (Ok W wr)) (fun a _=>(7-intOf a).toNat)
 case atStart=>exact ⟨0,by omega,rfl,Ok.refl _⟩
 case round =>
  obtain ⟨k,hk,rfl,HK⟩:=hrel
  have hr:Hid _:=Ok.row' HK.out rz.out
  have hz:=lt_row hr.out
  have nz1:¬gz=wr.heap.size:=by omega
  have nz2:¬wr.heap.size=gz:=by omega
  obtain ⟨k0,k1,k2,k3,k4,k5,k6,k7,k8,k9⟩:=row5_facts hr.out
  rcases (show k=0 by omega) with rfl
  ·go_wp2_with fail
   (try simp only [Exit.inBlock,Exit.then]);refine bodyPost_ret (results_iv rfl _ _ (gz) 142 #[_,_,_,_,_] (0,0) _ rfl (heap_past _ _ _ (lt_row (row_set5 hr.out _ _ _ _ _)) (row_set5 hr.out _ _ _ _ _)) Tryz.underlying142 rfl infoO) rfl ?_
   exact ⟨rfl,Ok.alloc (Ok.set (Ok.set (Ok.set (Ok.set (Ok.set (HW.out.step HK.out) (show w0.heap.size<=gz by omega) _) (show w0.heap.size<=gz by omega) _) (show w0.heap.size<=gz by omega) _) (show w0.heap.size<=gz by omega) _) (show w0.heap.size<=gz by omega) _) _⟩
set_option maxRecDepth 100000 in
theorem find_add (w0 w:World) (hok:Ok w0 w) :
  Calls Tryz.prog 155 #[.int .i64 3] w fun e w'=>e=.returned (.tuple #[.agg #[.int .i64 3,.bool false,.bool false,.func (.func 203) #[] #[],.func (.func 204) #[] #[]],.bool true])/\Ok w0 w':=by
 have hle:=hok.le
 go_enter Tryz.func155,Tryz.ntmps155
 go_wp2_with fail
 obtain ⟨W,hW⟩:∃ W,W=(w).alloc (.cells #[.int .i64 0,.bool false,.bool false,.nilFunc,.nilFunc] 142):=⟨_,rfl⟩
 have rz:Hid (W.heap[w.heap.size]?=some (.cells #[.int .i64 0,.bool false,.bool false,.nilFunc,.nilFunc] 142)):=by unfold Hid;rw [hW];exact jj
 have HW:Hid (Ok w0 W):=by unfold Hid;rw [hW];exact (by repeat (first | exact hok | refine Ok.alloc ?_ _ | refine Ok.draws ?_ _ | fail))
 rw [<-hW]
 clear hW
 obtain ⟨gz,egz⟩:∃ g,g=w.heap.size:=⟨_,rfl⟩
 rw [<-egz] at rz ⊢
 have lgz:w0.heap.size<=gz:=by omega
 clear egz
 go_loopw [19] (fun a wr=>∃ k:Nat,k<=1/\a=.int .i64 (k:Int)/\Hid (Ok W wr)) (fun a _=>(7-intOf a).toNat)
 case atStart=>exact ⟨0,by omega,rfl,Ok.refl _⟩
 case round =>
  obtain ⟨k,hk,rfl,HK⟩:=hrel
  have hr:Hid _:=Ok.row' HK.out rz.out
  have hz:=lt_row hr.out
  have nz1:¬gz=wr.heap.size:=by omega
  have nz2:¬wr.heap.size=gz:=by omega
  obtain ⟨k0,k1,k2,k3,k4,k5,k6,k7,k8,k9⟩:=row5_facts hr.out
  rcases (show k=0\/k=1 by omega) with rfl | rfl
  ·go_wp2_with fail
   go_roundw
   case rel=>exact ⟨1,by omega,rfl,HK.out.alloc _⟩
   case measure=>simp [intOf]
  ·go_wp2_with fail
   (try simp only [Exit.inBlock,Exit.then]);refine bodyPost_ret (results_iv rfl _ _ (gz) 142 #[_,_,_,_,_] (0,0) _ rfl (heap_past _ _ _ (lt_row (row_set5 hr.out _ _ _ _ _)) (row_set5 hr.out _ _ _ _ _)) Tryz.underlying142 rfl infoO) rfl ?_
   exact ⟨rfl,Ok.alloc (Ok.set (Ok.set (Ok.set (Ok.set (Ok.set (HW.out.step HK.out) (show w0.heap.size<=gz by omega) _) (show w0.heap.size<=gz by omega) _) (show w0.heap.size<=gz by omega) _) (show w0.heap.size<=gz by omega) _) (show w0.heap.size<=gz by omega) _) _⟩
set_option maxRecDepth 100000 in
theorem find_sub (w0 w:World) (hok:Ok w0 w) :
  Calls Tryz.prog 155 #[.int .i64 4] w fun e w'=>e=.returned (.tuple #[.agg #[.int .i64 4,.bool false,.bool false,.func (.func 205) #[] #[],.func (.func 118) #[] #[]],.bool true])/\Ok w0 w':=by
 have hle:=hok.le
 go_enter Tryz.func155,Tryz.ntmps155
 go_wp2_with fail
 obtain ⟨W,hW⟩:∃ W,W=(w).alloc (.cells #[.int .i64 0,.bool false,.bool false,.nilFunc,.nilFunc] 142):=⟨_,rfl⟩
 have rz:Hid (W.heap[w.heap.size]?=some (.cells #[.int .i64 0,.bool false,.bool false,.nilFunc,.nilFunc] 142)):=by unfold Hid;rw [hW];exact jj
 have HW:Hid (Ok w0 W):=by unfold Hid;rw [hW];exact (by repeat (first | exact hok | refine Ok.alloc ?_ _ | refine Ok.draws ?_ _ | fail))
 rw [<-hW]
 clear hW
 obtain ⟨gz,egz⟩:∃ g,g=w.heap.size:=⟨_,rfl⟩
 rw [<-egz] at rz ⊢
 have lgz:w0.heap.size<=gz:=by omega
 clear egz
 go_loopw [19] (fun a wr=>∃ k:Nat,k<=2/\a=.int .i64 (k:Int)/\Hid (Ok W wr)) (fun a _=>(7-intOf a).toNat)
 case atStart=>exact ⟨0,by omega,rfl,Ok.refl _⟩
 case round =>
  obtain ⟨k,hk,rfl,HK⟩:=hrel
  have hr:Hid _:=Ok.row' HK.out rz.out
  have hz:=lt_row hr.out
  have nz1:¬gz=wr.heap.size:=by omega
  have nz2:¬wr.heap.size=gz:=by omega
  obtain ⟨k0,k1,k2,k3,k4,k5,k6,k7,k8,k9⟩:=row5_facts hr.out
  rcases (show k=0\/k=1\/k=2 by omega) with rfl | rfl | rfl
  ·go_wp2_with fail
   go_roundw
   case rel=>exact ⟨1,by omega,rfl,HK.out.alloc _⟩
   case measure=>simp [intOf]
  ·go_wp2_with fail
   go_roundw
   case rel=>exact ⟨2,by omega,rfl,HK.out.alloc _⟩
   case measure=>simp [intOf]
  ·go_wp2_with fail
   (try simp only [Exit.inBlock,Exit.then]);refine bodyPost_ret (results_iv rfl _ _ (gz) 142 #[_,_,_,_,_] (0,0) _ rfl (heap_past _ _ _ (lt_row (row_set5 hr.out _ _ _ _ _)) (row_set5 hr.out _ _ _ _ _)) Tryz.underlying142 rfl infoO) rfl ?_
   exact ⟨rfl,Ok.alloc (Ok.set (Ok.set (Ok.set (Ok.set (Ok.set (HW.out.step HK.out) (show w0.heap.size<=gz by omega) _) (show w0.heap.size<=gz by omega) _) (show w0.heap.size<=gz by omega) _) (show w0.heap.size<=gz by omega) _) (show w0.heap.size<=gz by omega) _) _⟩
set_option maxRecDepth 100000 in
theorem find_mul (w0 w:World) (hok:Ok w0 w) :
  Calls Tryz.prog 155 #[.int .i64 5] w fun e w'=>e=.returned (.tuple #[.agg #[.int .i64 5,.bool false,.bool false,.func (.func 206) #[] #[],.func (.func 207) #[] #[]],.bool true])/\Ok w0 w':=by
 have hle:=hok.le
 go_enter Tryz.func155,Tryz.ntmps155
 go_wp2_with fail
 obtain ⟨W,hW⟩:∃ W,W=(w).alloc (.cells #[.int .i64 0,.bool false,.bool false,.nilFunc,.nilFunc] 142):=⟨_,rfl⟩
 have rz:Hid (W.heap[w.heap.size]?=some (.cells #[.int .i64 0,.bool false,.bool false,.nilFunc,.nilFunc] 142)):=by unfold Hid;rw [hW];exact jj
 have HW:Hid (Ok w0 W):=by unfold Hid;rw [hW];exact (by repeat (first | exact hok | refine Ok.alloc ?_ _ | refine Ok.draws ?_ _ | fail))
 rw [<-hW]
 clear hW
 obtain ⟨gz,egz⟩:∃ g,g=w.heap.size:=⟨_,rfl⟩
 rw [<-egz] at rz ⊢
 have lgz:w0.heap.size<=gz:=by omega
 clear egz
 go_loopw [19] (fun a wr=>∃ k:Nat,k<=3/\a=.int .i64 (k:Int)/\Hid (Ok W wr)) (fun a _=>(7-intOf a).toNat)
 case atStart=>exact ⟨0,by omega,rfl,Ok.refl _⟩
 case round =>
  obtain ⟨k,hk,rfl,HK⟩:=hrel
  have hr:Hid _:=Ok.row' HK.out rz.out
  have hz:=lt_row hr.out
  have nz1:¬gz=wr.heap.size:=by omega
  have nz2:¬wr.heap.size=gz:=by omega
  obtain ⟨k0,k1,k2,k3,k4,k5,k6,k7,k8,k9⟩:=row5_facts hr.out
  rcases (show k=0\/k=1\/k=2\/k=3 by omega) with rfl | rfl | rfl | rfl
  ·go_wp2_with fail
   go_roundw
   case rel=>exact ⟨1,by omega,rfl,HK.out.alloc _⟩
   case measure=>simp [intOf]
  ·go_wp2_with fail
   go_roundw
   case rel=>exact ⟨2,by omega,rfl,HK.out.alloc _⟩
   case measure=>simp [intOf]
  ·go_wp2_with fail
   go_roundw
   case rel=>exact ⟨3,by omega,rfl,HK.out.alloc _⟩
   case measure=>simp [intOf]
  ·go_wp2_with fail
   (try simp only [Exit.inBlock,Exit.then]);refine bodyPost_ret (results_iv rfl _ _ (gz) 142 #[_,_,_,_,_] (0,0) _ rfl (heap_past _ _ _ (lt_row (row_set5 hr.out _ _ _ _ _)) (row_set5 hr.out _ _ _ _ _)) Tryz.underlying142 rfl infoO) rfl ?_
   exact ⟨rfl,Ok.alloc (Ok.set (Ok.set (Ok.set (Ok.set (Ok.set (HW.out.step HK.out) (show w0.heap.size<=gz by omega) _) (show w0.heap.size<=gz by omega) _) (show w0.heap.size<=gz by omega) _) (show w0.heap.size<=gz by omega) _) (show w0.heap.size<=gz by omega) _) _⟩
set_option maxRecDepth 100000 in
theorem find_div (w0 w:World) (hok:Ok w0 w) :
  Calls Tryz.prog 155 #[.int .i64 6] w fun e w'=>e=.returned (.tuple #[.agg #[.int .i64 6,.bool false,.bool true,.func (.func 208) #[] #[],.func (.func 209) #[] #[]],.bool true])/\Ok w0 w':=by
 have hle:=hok.le
 go_enter Tryz.func155,Tryz.ntmps155
 go_wp2_with fail
 obtain ⟨W,hW⟩:∃ W,W=(w).alloc (.cells #[.int .i64 0,.bool false,.bool false,.nilFunc,.nilFunc] 142):=⟨_,rfl⟩
 have rz:Hid (W.heap[w.heap.size]?=some (.cells #[.int .i64 0,.bool false,.bool false,.nilFunc,.nilFunc] 142)):=by unfold Hid;rw [hW];exact jj
 have HW:Hid (Ok w0 W):=by unfold Hid;rw [hW];exact (by repeat (first | exact hok | refine Ok.alloc ?_ _ | refine Ok.draws ?_ _ | fail))
 rw [<-hW]
 clear hW
 obtain ⟨gz,egz⟩:∃ g,g=w.heap.size:=⟨_,rfl⟩
 rw [<-egz] at rz ⊢
 have lgz:w0.heap.size<=gz:=by omega
 clear egz
 go_loopw [19] (fun a wr=>∃ k:Nat,k<=4/\a=.int .i64 (k:Int)/\Hid (Ok W wr)) (fun a _=>(7-intOf a).toNat)
 case atStart=>exact ⟨0,by omega,rfl,Ok.refl _⟩
 case round =>
  obtain ⟨k,hk,rfl,HK⟩:=hrel
  have hr:Hid _:=Ok.row' HK.out rz.out
  have hz:=lt_row hr.out
  have nz1:¬gz=wr.heap.size:=by omega
  have nz2:¬wr.heap.size=gz:=by omega
  obtain ⟨k0,k1,k2,k3,k4,k5,k6,k7,k8,k9⟩:=row5_facts hr.out
  rcases (show k=0\/k=1\/k=2\/k=3\/k=4 by omega) with rfl | rfl | rfl | rfl | rfl
  ·go_wp2_with fail
   go_roundw
   case rel=>exact ⟨1,by omega,rfl,HK.out.alloc _⟩
   case measure=>simp [intOf]
  ·go_wp2_with fail
   go_roundw
   case rel=>exact ⟨2,by omega,rfl,HK.out.alloc _⟩
   case measure=>simp [intOf]
  ·go_wp2_with fail
   go_roundw
   case rel=>exact ⟨3,by omega,rfl,HK.out.alloc _⟩
   case measure=>simp [intOf]
  ·go_wp2_with fail
   go_roundw
   case rel=>exact ⟨4,by omega,rfl,HK.out.alloc _⟩
   case measure=>simp [intOf]
  ·go_wp2_with fail
   (try simp only [Exit.inBlock,Exit.then]);refine bodyPost_ret (results_iv rfl _ _ (gz) 142 #[_,_,_,_,_] (0,0) _ rfl (heap_past _ _ _ (lt_row (row_set5 hr.out _ _ _ _ _)) (row_set5 hr.out _ _ _ _ _)) Tryz.underlying142 rfl infoO) rfl ?_
   exact ⟨rfl,Ok.alloc (Ok.set (Ok.set (Ok.set (Ok.set (Ok.set (HW.out.step HK.out) (show w0.heap.size<=gz by omega) _) (show w0.heap.size<=gz by omega) _) (show w0.heap.size<=gz by omega) _) (show w0.heap.size<=gz by omega) _) (show w0.heap.size<=gz by omega) _) _⟩
set_option maxRecDepth 100000 in
theorem find_rem (w0 w:World) (hok:Ok w0 w) :
  Calls Tryz.prog 155 #[.int .i64 7] w fun e w'=>e=.returned (.tuple #[.agg #[.int .i64 7,.bool false,.bool true,.func (.func 210) #[] #[],.func (.func 211) #[] #[]],.bool true])/\Ok w0 w':=by
 have hle:=hok.le
 go_enter Tryz.func155,Tryz.ntmps155
 go_wp2_with fail
 obtain ⟨W,hW⟩:∃ W,W=(w).alloc (.cells #[.int .i64 0,.bool false,.bool false,.nilFunc,.nilFunc] 142):=⟨_,rfl⟩
 have rz:Hid (W.heap[w.heap.size]?=some (.cells #[.int .i64 0,.bool false,.bool false,.nilFunc,.nilFunc] 142)):=by unfold Hid;rw [hW];exact jj
 have HW:Hid (Ok w0 W):=by unfold Hid;rw [hW];exact (by repeat (first | exact hok | refine Ok.alloc ?_ _ | refine Ok.draws ?_ _ | fail))
 rw [<-hW]
 clear hW
 obtain ⟨gz,egz⟩:∃ g,g=w.heap.size:=⟨_,rfl⟩
 rw [<-egz] at rz ⊢
 have lgz:w0.heap.size<=gz:=by omega
 clear egz
 go_loopw [19] (fun a wr=>∃ k:Nat,k<=5/\a=.int .i64 (k:Int)/\Hid (Ok W wr)) (fun a _=>(7-intOf a).toNat)
 case atStart=>exact ⟨0,by omega,rfl,Ok.refl _⟩
 case round =>
  obtain ⟨k,hk,rfl,HK⟩:=hrel
  have hr:Hid _:=Ok.row' HK.out rz.out
  have hz:=lt_row hr.out
  have nz1:¬gz=wr.heap.size:=by omega
  have nz2:¬wr.heap.size=gz:=by omega
  obtain ⟨k0,k1,k2,k3,k4,k5,k6,k7,k8,k9⟩:=row5_facts hr.out
  rcases (show k=0\/k=1\/k=2\/k=3\/k=4\/k=5 by omega) with rfl | rfl | rfl | rfl | rfl | rfl
  ·go_wp2_with fail
   go_roundw
   case rel=>exact ⟨1,by omega,rfl,HK.out.alloc _⟩
   case measure=>simp [intOf]
  ·go_wp2_with fail
   go_roundw
   case rel=>exact ⟨2,by omega,rfl,HK.out.alloc _⟩
   case measure=>simp [intOf]
  ·go_wp2_with fail
   go_roundw
   case rel=>exact ⟨3,by omega,rfl,HK.out.alloc _⟩
   case measure=>simp [intOf]
  ·go_wp2_with fail
   go_roundw
   case rel=>exact ⟨4,by omega,rfl,HK.out.alloc _⟩
   case measure=>simp [intOf]
  ·go_wp2_with fail
   go_roundw
   case rel=>exact ⟨5,by omega,rfl,HK.out.alloc _⟩
   case measure=>simp [intOf]
  ·go_wp2_with fail
   (try simp only [Exit.inBlock,Exit.then]);refine bodyPost_ret (results_iv rfl _ _ (gz) 142 #[_,_,_,_,_] (0,0) _ rfl (heap_past _ _ _ (lt_row (row_set5 hr.out _ _ _ _ _)) (row_set5 hr.out _ _ _ _ _)) Tryz.underlying142 rfl infoO) rfl ?_
   exact ⟨rfl,Ok.alloc (Ok.set (Ok.set (Ok.set (Ok.set (Ok.set (HW.out.step HK.out) (show w0.heap.size<=gz by omega) _) (show w0.heap.size<=gz by omega) _) (show w0.heap.size<=gz by omega) _) (show w0.heap.size<=gz by omega) _) (show w0.heap.size<=gz by omega) _) _⟩
end Go.Proofs.YtnjmjnmhldhaoaaGreat
