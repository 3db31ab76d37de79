import Derived.Test.YtenoopfeplalnaaGreatDoorKHc
set_option maxHeartbeats 8000000
set_option linter.all false
namespace Go.Proofs.YtenoopfeplalnaaGreatDoor
section
open Go.RowKit Go.Maps
theorem zO8 (k:Nat) (mg:List Int):mgL (k+1) mg=mgL k mg++if (k:Int)∈mg then [(k:Int)] else []:=by
 unfold mgL
 rw [List.range_succ,List.map_append,List.filter_append]
 congr 1
 by_cases h:(k:Int)∈mg<;>simp [h]
theorem yB6 (k:Nat) (mg:List Int):(mgL k mg).length<=k:=by
 unfold mgL
 have:=List.length_filter_le (fun n:Int=>decide (n∈mg)) ((List.range k).map fun k:Nat=>(k:Int))
 simpa using this
set_option maxRecDepth 100000 in
theorem zS6 (a:Nat->Value) (N cap:Nat) (H U:Int) (es:List Ed) (mg:List Int) (w:World) (h:SL w 1 (a 12) N (mgB N (plOf cap H U es mg))) (hN:N<=1000) :
  Calls Tryz.prog 24 #[.agg #[a 0,a 1,a 2,a 3,a 4,a 5,a 6,a 7,a 8,a 9,a 10,a 11,a 12]] w fun e w'=>∃ mv,e=.returned mv/\w'.ownsRow w.heap.size 3 1 mv (mgL N mg).length (ilL (mgL N mg))/\Ok w w':=by
 have HM:=hid h
 have HN:=hid hN
 obtain ⟨_,_,mo,mc,e12,_⟩:=h
 have H12:Hid (a 12=.slice mo N mc):=e12
 rw [e12]
 clear e12 hN
 go_enter Tryz.func24,Tryz.ntmps24
 go_wp2_with fail
 obtain ⟨W,hW⟩:∃ z,z=w.alloc (Obj.cells #[a 0,a 1,a 2,a 3,a 4,a 5,a 6,a 7,a 8,a 9,a 10,a 11,.slice mo N mc] 90):=⟨_,rfl⟩
 rw [<-hW]
 have HK:Hid (Ok w W):=by unfold Hid;rw [hW];exact (Ok.refl w).alloc _
 clear hW
 go_loopw [3,9] (fun t3 t9 wr=>∃ k:Nat,t9=.int .i64 (k:Nat)/\k<=N/\Hid (Ok W wr/\wr.ownsRow W.heap.size 3 1 t3 (mgL k mg).length (ilL (mgL k mg)))) (fun _ t9 _=>((N:Int)-intOf t9).toNat)
 case atStart=>exact ⟨0,rfl,Nat.zero_le _,Ok.refl _,World.ownsRow_nil _ _ _ _⟩
 case round =>
  obtain ⟨k,rfl,hk,HR⟩:=hrel
  by_cases hkl:k<N
  ·obtain ⟨b,o,c,e1,e2,e3⟩:=HM.out.at (by decide) hkl
   rw [H12.out] at e1
   injection e1 with e4 e5 e6
   subst e4 e6
   clear e5
   have r0:wr.cell? ⟨b,o+k,none⟩=some (.bool (decide ((k:Int)∈mg))):=(HK.out.step HR.out.1).cell (p:=⟨b,o+k,none⟩) e2 (e3 k _ (by unfold mgB plOf;rw [List.getElem?_map,List.getElem?_range hkl];rfl))
   have lb:b<wr.heap.size:=Nat.lt_of_lt_of_le e2 (HK.out.step HR.out.1).le
   have hkI:(k:Int)<(N:Int):=za6 hkl
   have kw:IntKind.i64.wrap ((k:Int)+1)=((k+1:Nat):Int):=zb6 (by have:=HN.out;omega)
   clear e2 e3
   by_cases hm:(k:Int)∈mg
   ·rw [decide_eq_true hm] at r0
    have HX:Hid (mgL (k+1) mg=mgL k mg++[(k:Int)]):=by unfold Hid;rw [zO8,if_pos hm]
    clear hm
    go_wp2_with (first | (at_builtin;refine zd0 rfl _ _ 25 3 1 8 _ rfl Tryz.underlying25 infIn (by rfl) (by decide) (by decide) W.heap.size _ (mgL k mg).length (ilL (mgL k mg)) (by rfl) (World.ownsRow.alloc HR.out.2 _) (.slice (some ⟨wr.heap.size,0,none⟩) 1 1) 1 [.int .i64 (k:Nat)] (by rfl) (SL.one wr 3 [.int .i64 (k:Nat)] rfl (by simp [Value.oneCell'])) (by have h1:=yB6 k mg;have h2:=HN.out;omega) (by have h1:=HR.out.1.le;simp;omega) ?_;intro v9 w9 k1 k2;have HO9:Hid (w9.ownsRow W.heap.size 3 1 v9 (mgL (k+1) mg).length (ilL (mgL (k+1) mg))):=(by unfold Hid;rw [HX.out,List.length_append,List.length_singleton,zs4];exact k1);have HK9:Hid (Ok W w9):=(HR.out.1.alloc _).grown k2 (fun b e=>(HR.out.2.lt b e).1);clear k1 k2) | fail)
    exact ⟨⟨k+1,rfl,hkl,HK9.out,HO9.out⟩,by show ((N:Int)-((k:Int)+1)).toNat<((N:Int)-(k:Int)).toNat;omega⟩
   ·rw [decide_eq_false hm] at r0
    have HX:Hid (mgL (k+1) mg=mgL k mg):=by unfold Hid;rw [zO8,if_neg hm,List.append_nil]
    clear hm
    go_wp2_with fail
    exact ⟨⟨k+1,rfl,hkl,HR.out.1,by rw [HX.out];exact HR.out.2⟩,by show ((N:Int)-((k:Int)+1)).toNat<((N:Int)-(k:Int)).toNat;omega⟩
  ·have hkI:¬(k:Int)<(N:Int):=zb3 hkl
   have HKE:Hid (k=N):=by unfold Hid;omega
   go_wp2_with fail
   go_ret
   refine ⟨_,rfl,?_,HK.out.step HR.out.1⟩
   have h1:=HR.out.2
   rw [HKE.out] at h1
   exact za8 h1 HK.out.le
end
section
open Go.RowKit Go.Maps
theorem PO.ok {w w':World} {B:Nat} {a:Nat->Value} {N gg:Nat} {H U:Int} {cap:Nat} {es:List Ed} {mg:List Int} (h:PO w B a N gg H U cap es mg) (hk:Ok w w'):PO w' B a N gg H U cap es mg:=by
 obtain ⟨sv,h1,h2⟩:=h.steps
 obtain ⟨ov,h3,h4⟩:=h.outs
 exact ⟨h.nodes,h.sls,h.exi,za1 h.edges hk,h.capv,⟨sv,za1 h1 hk,fun i e he=>by obtain ⟨v,e1,e2⟩:=h2 i e he;exact ⟨v,e1,e2.ok hk⟩⟩,⟨ov,za1 h3 hk,fun n hn=>by obtain ⟨v,e1,e2⟩:=h4 n hn;exact ⟨v,e1,za1 e2 hk⟩⟩,h.mrg.1,za1 h.mrg.2 hk⟩
theorem PO.mark {w:World} {B:Nat} {a:Nat->Value} {N gg:Nat} {H U:Int} {cap:Nat} {es:List Ed} {mg:List Int} (h:PO w B a N gg H U cap es mg) {n:Nat} (hn:n<N):PO (w.setCell ⟨gg,n,none⟩ (.bool true)) B a N gg H U cap es ((n:Int)::mg):=by
 obtain ⟨sv,h1,h2⟩:=h.steps
 obtain ⟨ov,h3,h4⟩:=h.outs
 obtain ⟨cg,fg,hgg⟩:=zg7 h.mrg.2 gg rfl
 refine ⟨h.nodes,h.sls,h.exi,zc8 h.edges (zb7 h.edges hgg (by decide)) _,h.capv,⟨sv,zc8 h1 (zb7 h1 hgg (by decide)) _,fun i e he=>?_⟩,⟨ov,zc8 h3 (zb7 h3 hgg (by decide)) _,fun m hm=>?_⟩,h.mrg.1,?_⟩
 ·obtain ⟨v,e1,e2⟩:=h2 i e he
  refine ⟨v,e1,e2.far fun b hb ⟨c,f,hr⟩=>Below.heap_setCell _ _ _ _ (fun e9=>?_)⟩
  have e8:b=gg:=e9
  rw [e8,hgg] at hr
  injection hr with hr
  injection hr with _ hr
  exact absurd hr (by decide)
 ·obtain ⟨v,e1,e2⟩:=h4 m hm
  exact ⟨v,e1,zc8 e2 (zb7 e2 hgg (by decide)) _⟩
 ·have e:mgB N (plOf cap H U es ((n:Int)::mg))=(mgB N (plOf cap H U es mg)).set n (.bool true):=by
   have hl:∀ m,(mgB N (plOf cap H U es m)).length=N:=fun m=>by unfold mgB;simp
   apply List.ext_getElem?
   intro i
   rw [List.getElem?_set]
   by_cases hi:i<N
   ·by_cases c:n=i
    ·subst c
     rw [if_pos rfl,if_pos (by rw [hl];exact hi)]
     unfold mgB plOf
     rw [List.getElem?_map,List.getElem?_range hi]
     simp
    ·rw [if_neg c]
     unfold mgB plOf
     rw [List.getElem?_map,List.getElem?_map,List.getElem?_range hi]
     have:¬(i:Int)=(n:Int):=by omega
     simp [this]
   ·rw [List.getElem?_eq_none (by rw [hl];omega)]
    split
    ·rw [if_neg (by rw [hl];omega)]
    ·rw [List.getElem?_eq_none (by rw [hl];omega)]
  rw [e]
  exact zz6 h.mrg.2 _ (by omega)
theorem PO.ones {w:World} {B:Nat} {a:Nat->Value} {N gg:Nat} {H U:Int} {cap:Nat} {es:List Ed} {mg:List Int} (h:PO w B a N gg H U cap es mg):(#[a 0,a 1,a 2,a 3,a 4,a 5,a 6,a 7,a 8,a 9,a 10,a 11,a 12]:Array Value).all (·.oneCell')=true:=by
 obtain ⟨sv,h1,h2⟩:=h.steps
 obtain ⟨ov,h3,h4⟩:=h.outs
 obtain ⟨_,_,_,e0⟩:=h.sls 0 (by omega)
 obtain ⟨_,_,_,e1⟩:=h.sls 1 (by omega)
 obtain ⟨_,_,_,e2⟩:=h.sls 2 (by omega)
 obtain ⟨_,_,_,e3⟩:=h.sls 3 (by omega)
 obtain ⟨_,_,_,e4⟩:=h.sls 4 (by omega)
 obtain ⟨_,_,_,e5⟩:=h.sls 5 (by omega)
 obtain ⟨_,e7⟩:=h.exi
 obtain ⟨_,_,e8⟩:=za0 h.edges
 obtain ⟨_,_,e10⟩:=za0 h1
 obtain ⟨_,_,e11⟩:=za0 h3
 rw [e0,e1,e2,e3,e4,e5,e7,e8,e10,e11,h.nodes,h.capv,h.mrg.1]
 simp [Value.oneCell']
theorem row3 {w:World} {g:Nat} {a0 a1 a2:Value} {t:TypeId} (h:w.heap[g]?=some (.cells #[a0,a1,a2] t (0,0))):w.cell? ⟨g,0,none⟩=some a0/\w.cell? ⟨g,1,none⟩=some a1/\w.cell? ⟨g,2,none⟩=some a2/\w.frozen? ⟨g,0,none⟩=false/\w.frozen? ⟨g,1,none⟩=false/\w.frozen? ⟨g,2,none⟩=false/\g<w.heap.size:=by
 refine ⟨?_,?_,?_,frozen_of_row _ _ _ _ _ h,frozen_of_row _ _ _ _ _ h,frozen_of_row _ _ _ _ _ h,za2 h⟩<;>simp [World.cell?,h]
def SpIs (w:World) (N:Nat) (R:List Int×List Vx×List Lk) (e:Ending) (w':World):Prop:=∃ (vv lv mv:Value),e=.returned (.agg #[vv,lv,mv])/\VsOwn w' w.heap.size vv R.2.1/\w'.ownsRow w.heap.size 43 3 lv R.2.2.length (lkL R.2.2)/\w'.ownsRow w.heap.size 3 1 mv (mgL N R.1).length (ilL (mgL N R.1))/\Ok w w'
theorem VsOwn.base {w:World} {B B':Nat} {vv:Value} {vs:List Vx} (h:VsOwn w B vv vs) (hB:B'<=B):VsOwn w B' vv vs:=by
 obtain ⟨tl,h1,h2,h3⟩:=h
 exact ⟨tl,h1,za8 h2 hB,fun i v x hv hx=>(h3 i v x hv hx).base hB⟩
structure SI (W:World) (gP B:Nat) (b:Nat->Value) (N gg:Nat) (H U:Int) (cap:Nat) (es:List Ed) (R:List Int×List Vx×List Lk) (gk:Nat) (mg:List Int) (wr:World):Prop where
 ok:Ok W wr
 row:wr.heap[gP]?=some (.cells #[b 0,b 1,b 2,b 3,b 4,b 5,b 6,b 7,b 8,b 9,b 10,b 11,b 12] 90 (0,0))
 po:PO wr B b N gg H U cap es mg
 run:runQ cap H U es (N*cap+1) gk mg=some R
 bg:W.heap.size<=gg
set_option maxRecDepth 100000 in
theorem yb1 (a:Nat->Value) (N cap:Nat) (H U c3 c4 c5 c7 c8':Int) (tz:Option Addr) (tn tc:Nat) (es:List Ed) (R:List Int×List Vx×List Lk) (w:World) (hn:a 6=.int .i64 (N:Nat)) (hs:∀ i,i<6->∃ ao n c,a i=.slice ao n c) (hx:∃ x,a 7=.int .i64 x) (he:w.ownsRow 0 51 6 (a 8) es.length (edL es)) (hb:N<=1000/\cap<=10/\es.length<=5000) (hfr:∀ e∈es,0<=e.from'/\e.from'<(N:Int)) (hwi:Within N es) (hc:0<cap) (hU:0<=U/\U<=1000) (hR:runQ cap H U es (N*cap+1) (N+1) []=some R) (hT:Lib.TabBelow Tryz.prog w.heap.size w "internal/strconv.uint64pow10" .u64 Lib.pow10Tab) :
  Calls Tryz.prog 11 #[.agg #[a 0,a 1,a 2,a 3,a 4,a 5,a 6,a 7,a 8],.agg #[.int .i64 H,.int .i64 U,.int .i64 (cap:Nat),.int .i64 c3,.int .i64 c4,.int .i64 c5,.slice tz tn tc,.int .i64 c7,.int .i64 c8']] w fun e w'=>SpIs w N R e w':=by
 have HPB:Hid (∀ mg,PB N (plOf cap H U es mg)):=fun mg=>⟨hwi,hfr,hb,hc,hU⟩
 have HRN:=hid hR
 have HB:=hid hb
 have HTB:=hid hT
 have HNW:Hid (∀ Y,Ok w Y->Calls Tryz.prog 22 #[.agg #[a 0,a 1,a 2,a 3,a 4,a 5,a 6,a 7,a 8],.agg #[.int .i64 H,.int .i64 U,.int .i64 (cap:Nat),.int .i64 c3,.int .i64 c4,.int .i64 c5,.slice tz tn tc,.int .i64 c7,.int .i64 c8']] Y fun e w'=>NwIs Y N H U cap es e w'):=fun Y hY=>zJ3 a N cap H U c3 c4 c5 c7 c8' tz tn tc es Y hn hs hx (za1 he hY) ⟨hb.1,hb.2.2⟩ hfr
 have HMI:Hid (Within N es/\0<cap/\U<=1000):=⟨hwi,hc,hU.2⟩
 clear hn hs hx he hb hfr hwi hc hU hR hT
 go_enter Tryz.func11,Tryz.ntmps11
 go_wp2_with fail
 obtain ⟨W0,hW0⟩:∃ z,z=((w.alloc (Obj.cells #[a 0,a 1,a 2,a 3,a 4,a 5,a 6,a 7,a 8] 46)).alloc (Obj.cells #[.int .i64 H,.int .i64 U,.int .i64 (cap:Nat),.int .i64 c3,.int .i64 c4,.int .i64 c5,.slice tz tn tc,.int .i64 c7,.int .i64 c8'] 24)).alloc (Obj.cells #[.slice none 0 0,.slice none 0 0,.slice none 0 0] 35):=⟨_,rfl⟩
 obtain ⟨gR,hgR⟩:∃ z,z=w.heap.size+1+1:=⟨_,rfl⟩
 rw [<-hW0,<-hgR]
 have HK0:Hid (Ok w W0):=by unfold Hid;rw [hW0];exact (((Ok.refl w).alloc _).alloc _).alloc _
 have HRR0:Hid (W0.heap[gR]?=some (.cells #[Value.slice none 0 0,Value.slice none 0 0,Value.slice none 0 0] 35 (0,0))):=by unfold Hid;rw [hW0,hgR];exact (by repeat (first | (refine heap_at _ _ _ ?hx; case hx => (first | (simp; done) | (simp; omega))) | (refine heap_past _ _ _ ?hy ?_; case hy => (first | (simp; done) | (simp; omega))) | fail))
 have HG:Hid (w.heap.size<=gR):=by unfold Hid;omega
 clear hW0 hgR
 refine (HNW.out W0 HK0.out).mono ?_
 rintro e w1 hv
 unfold NwIs at hv
 obtain ⟨b,gg,rfl,hpo,hk1⟩:=hv
 have HPO:Hid (PO w1 W0.heap.size b N gg H U cap es []):=hpo
 have HK1:Hid (Ok W0 w1):=hk1
 have HON:Hid ((#[b 0,b 1,b 2,b 3,b 4,b 5,b 6,b 7,b 8,b 9,b 10,b 11,b 12]:Array Value).all (·.oneCell')=true):=hpo.ones
 clear hpo hk1
 go_wp2_with (first | (refine za9 rfl 90 _ _ rfl w1.heap.size 90 #[.slice none 0 0,.slice none 0 0,.slice none 0 0,.slice none 0 0,.slice none 0 0,.slice none 0 0,.int .i64 0,.int .i64 0,.slice none 0 0,.int .i64 0,.slice none 0 0,.slice none 0 0,.slice none 0 0] #[b 0,b 1,b 2,b 3,b 4,b 5,b 6,b 7,b 8,b 9,b 10,b 11,b 12] (by rfl) (by rfl) (za4 _ _) infPn rfl HON.out ?_) | fail)
 obtain ⟨W,hW⟩:∃ z,z=(w1.alloc (Obj.cells #[.slice none 0 0,.slice none 0 0,.slice none 0 0,.slice none 0 0,.slice none 0 0,.slice none 0 0,.int .i64 0,.int .i64 0,.slice none 0 0,.int .i64 0,.slice none 0 0,.slice none 0 0,.slice none 0 0] 90)).setRow w1.heap.size #[b 0,b 1,b 2,b 3,b 4,b 5,b 6,b 7,b 8,b 9,b 10,b 11,b 12]:=⟨_,rfl⟩
 obtain ⟨gP,hgP⟩:∃ z,z=w1.heap.size:=⟨_,rfl⟩
 rw [<-hW,<-hgP]
 have HKW:Hid (Ok w1 W):=by unfold Hid;rw [hW];exact ze4 ((Ok.refl w1).alloc _) (Nat.le_refl _) _
 have HK:Hid (Ok w W):=(HK0.out.step HK1.out).step HKW.out
 have HSI:Hid (SI W0 gP W0.heap.size b N gg H U cap es R (N+1) [] W):=⟨HK1.out.step HKW.out,by rw [hW,hgP];exact setRow_heap _ _ _ _ _ _ (za4 _ _),HPO.out.ok HKW.out,HRN.out,(HPO.out.mrg.2.lt gg rfl).1⟩
 have HGP:Hid (W0.heap.size<=gP/\gR<W0.heap.size):=by have h1:=HK1.out.le;have h2:=za2 HRR0.out;unfold Hid;omega
 clear hW hgP HNW
 go_frame
 go_loopg [] (N+1) (fun gk wr=>∃ mg,Hid (SI W0 gP W0.heap.size b N gg H U cap es R gk mg wr))
 case atStart=>exact ⟨[],HSI⟩
 case round =>
  obtain ⟨mg,HS⟩:=hrel
  obtain ⟨g,hg⟩:∃ g,gk=g+1:=by
   cases gk with
   | zero=>have h1:=HS.out.run;unfold runQ at h1;cases h1
   | succ g=>exact ⟨g,rfl⟩
  have HGK:Hid (gk=g+1):=hg
  clear hg HSI
  obtain ⟨p0,p1,p2,p3,p4,p5,p6,p7,p8,p9,p10,p11,p12,lgp⟩:=row13 HS.out.row
  have HAT:Hid (Calls Tryz.prog 23 #[.agg #[b 0,b 1,b 2,b 3,b 4,b 5,b 6,b 7,b 8,b 9,b 10,b 11,b 12]] wr fun e w'=>AtIs wr (plOf cap H U es mg) (N*cap+1) e w'):=zJ0 b N (plOf cap H U es mg) (N*cap+1) wr (HS.out.po.pi HMI.out.2.2) (HPB.out mg) (Nat.lt_succ_self _) (fun w' hw'=>HTB.out w' (Below.trans (HK0.out.step HS.out.ok) (hw'.mono (HK0.out.step HS.out.ok).le)))
  go_wp2_with fail
  refine HAT.out.mono ?_
  rintro e w2 hv
  unfold AtIs at hv
  cases hpf:(plOf cap H U es mg).find (N*cap+1) with
  | inl n =>
   rw [hpf] at hv
   obtain ⟨rfl,hk2⟩:=hv
   obtain ⟨h3,h4,h5⟩:=zz0 (p:=plOf cap H U es mg) HMI.out.2.1 HMI.out.1 hpf
   obtain ⟨k,hk⟩:∃ k:Nat,n=(k:Int):=⟨n.toNat,by omega⟩
   subst hk
   have HKN:Hid (k<N):=by unfold Hid;omega
   have HRU:Hid (runQ cap H U es (N*cap+1) g ((k:Int)::mg)=some R):=by have h1:=HS.out.run;rw [HGK.out] at h1;unfold runQ at h1;rw [hpf] at h1;exact h1
   have HK2:Hid (Ok wr w2):=hk2
   have HP2:Hid _:=HS.out.po.ok hk2
   have HR2:Hid _:=Ok.row' hk2 HS.out.row
   clear h3 h4 h5 hk2 hpf p0 p1 p2 p3 p4 p5 p6 p7 p8 p9 p10 p11 p12 lgp HAT
   obtain ⟨p0,p1,p2,p3,p4,p5,p6,p7,p8,p9,p10,p11,p12,lgp⟩:=row13 HR2.out
   rw [HP2.out.mrg.1] at p12
   obtain ⟨cg,fg,hgg⟩:=zg7 HP2.out.mrg.2 gg rfl
   have m0:w2.cell? ⟨gg,k,none⟩=some (.bool (decide ((k:Int)∈mg))):=by have h1:=HP2.out.mrg.2.cells (g:=gg) rfl k _ (show (mgB N (plOf cap H U es mg))[k]?=some (.bool (decide ((k:Int)∈mg))) by unfold mgB plOf;rw [List.getElem?_map,List.getElem?_range HKN.out];rfl);rw [zc0,Nat.zero_add] at h1;exact h1
   have m1:w2.frozen? ⟨gg,k,none⟩=false:=by
    rcases HP2.out.mrg.2.2 with ⟨e1,_⟩ | ⟨g',cp,cur,e1,_,hg9,_⟩
    ·cases e1
    ·injection e1 with e5 _ _
     injection e5 with e5
     injection e5 with e5
     rw [<-e5] at hg9
     exact frozen_of_row _ _ _ _ _ hg9
   have lgg:gg<w2.heap.size:=(HP2.out.mrg.2.lt gg rfl).2
   have hkI:(k:Int)<(N:Int):=by have:=HKN.out;omega
   have hkn:¬(k:Int)<0:=by omega
   have HNE:Hid (gP≠gg):=by
    unfold Hid
    intro e9
    have h1:=HR2.out
    rw [e9,hgg] at h1
    injection h1 with h1
    injection h1 with _ h1
    exact absurd h1 (by decide)
   clear hgg
   go_wp2_with fail
   go_roundg g
   case measure=>have:=HGK.out;omega
   case rel=>exact ⟨(k:Int)::mg,⟨((HS.out.ok.step HK2.out).set HS.out.bg _).alloc _,Ok.row' ((Ok.refl _).alloc _) (zk1 HR2.out HNE.out _),(HP2.out.mark HKN.out).ok ((Ok.refl _).alloc _),HRU.out,HS.out.bg⟩⟩
  | inr r =>
   rw [hpf] at hv
   obtain ⟨vv,lv,B,rfl,hvs,hls,hB,hk2⟩:=hv
   have HRU:Hid (R=(mg,r.1,r.2)):=by have h1:=HS.out.run;rw [HGK.out] at h1;unfold runQ at h1;rw [hpf] at h1;exact (Option.some.inj h1).symm
   have HK2:Hid (Ok wr w2):=hk2
   have HP2:Hid _:=HS.out.po.ok hk2
   have HR2:Hid _:=Ok.row' hk2 HS.out.row
   have HVS:Hid (VsOwn w2 B vv r.1/\w2.ownsRow B 43 3 lv r.2.length (lkL r.2)/\wr.heap.size<=B):=⟨hvs,hls,hB⟩
   obtain ⟨tl,z1,z2,z3⟩:=hvs
   obtain ⟨vo,vc,rfl⟩:=za0 z2
   obtain ⟨lo,lc,rfl⟩:=za0 hls
   clear hk2 hpf hls hB z1 z2 z3 p0 p1 p2 p3 p4 p5 p6 p7 p8 p9 p10 p11 p12 lgp HAT
   obtain ⟨p0,p1,p2,p3,p4,p5,p6,p7,p8,p9,p10,p11,p12,lgp⟩:=row13 HR2.out
   have HMR:Hid (∀ Y,Ok w2 Y->Calls Tryz.prog 24 #[.agg #[b 0,b 1,b 2,b 3,b 4,b 5,b 6,b 7,b 8,b 9,b 10,b 11,b 12]] Y fun e w'=>∃ mv,e=.returned mv/\w'.ownsRow Y.heap.size 3 1 mv (mgL N mg).length (ilL (mgL N mg))/\Ok Y w'):=fun Y hY=>zS6 b N cap H U es mg Y ((HP2.out.ok hY).pi HMI.out.2.2).mrg HB.out.1
   go_wp2_with fail
   refine (HMR.out _ ((Ok.refl w2).alloc _)).mono ?_
   rintro e w3 ⟨mv,rfl,hm,hk3⟩
   obtain ⟨gQ,hgQ⟩:∃ z,z=w2.heap.size:=⟨_,rfl⟩
   rw [<-hgQ]
   have HMV:Hid (w3.ownsRow (gQ+1) 3 1 mv (mgL N mg).length (ilL (mgL N mg))):=za8 hm (by rw [hgQ];exact za2 (za4 _ _))
   have HRQ:Hid (w3.heap[gQ]?=some (.cells #[Value.slice vo r.fst.length vc,Value.slice lo r.snd.length lc,Value.slice none 0 0] 35 (0,0))):=by rw [hgQ];exact Ok.row' hk3 (za4 _ _)
   have HRR3:Hid _:=Ok.row' ((HS.out.ok.step HK2.out).step (((Ok.refl w2).alloc _).step hk3)) HRR0.out
   have HK3:Hid (Ok w2 w3):=((Ok.refl w2).alloc _).step hk3
   obtain ⟨mo,mc,rfl⟩:=za0 hm
   obtain ⟨q0,q1,q2,q3,q4,q5,lgq⟩:=row3 HRQ.out
   obtain ⟨s0,s1,s2,s3,s4,s5,lgr⟩:=row3 HRR3.out
   have hqr:¬gQ=gR:=by have h1:=HGP.out.2;have h2:=HS.out.ok.le;have h3:=HK2.out.le;omega
   have hrq:¬gR=gQ:=fun e=>hqr e.symm
   have HQ:Hid (w.heap.size<=gQ/\W0.heap.size<=gQ):=by have h1:=HS.out.ok.le;have h3:=HK2.out.le;have h4:=HK0.out.le;unfold Hid;omega
   have HQE:Hid (gQ=w2.heap.size):=hgQ
   clear hgQ hm hk3
   go_wp2_with fail
   refine bodyPost_ret (results_cell_row rfl _ _ gR 35 #[_,_,_] (0,0) _ rfl (zd9 (zk1 HRR3.out hrq _) _ _ _) Tryz.underlying35 rfl infPt) rfl ?_
   have hb:=HQ.out
   have hB:=HVS.out.2.2
   have hE:=HK0.out.le
   have hF:=HS.out.ok.le
   have hG:=HGP.out
   have hlr:=HG.out
   have hsame:∀ x,x≠gQ->x≠gR->((((w3.setCell ⟨gQ,2,none⟩ (Value.slice mo (mgL N mg).length mc)).setCell ⟨gR,0,none⟩ (Value.slice vo r.fst.length vc)).setCell ⟨gR,1,none⟩ (Value.slice lo r.snd.length lc)).setCell ⟨gR,2,none⟩ (Value.slice mo (mgL N mg).length mc)).heap[x]?=w3.heap[x]?:=fun x h1 h2=>by rw [Below.heap_setCell _ _ _ _ h2,Below.heap_setCell _ _ _ _ h2,Below.heap_setCell _ _ _ _ h2,Below.heap_setCell _ _ _ _ h1]
   have hnq:∀ x,x<w2.heap.size->x≠gQ:=fun x hx=>by have:=HQE.out;omega
   have hR1:R.1=mg/\R.2.1=r.1/\R.2.2=r.2:=by rw [HRU.out];exact ⟨rfl,rfl,rfl⟩
   unfold SpIs
   rw [hR1.1,hR1.2.1,hR1.2.2]
   refine ⟨_,_,_,rfl,?_,?_,?_,?_⟩
   ·exact VsOwn.base (HVS.out.1.far fun x h1 h2=>(hsame x (hnq x h2) (by omega)).trans (HK3.out.block x h2)) (by omega)
   ·refine za8 (zb4 (za1 HVS.out.2.1 HK3.out) fun x hx=>hsame x (hnq x (HVS.out.2.1.lt x hx).2) (by have:=(HVS.out.2.1.lt x hx).1;omega)) (by omega)
   ·exact za8 (zb4 HMV.out fun x hx=>hsame x (by have:=(HMV.out.lt x hx).1;omega) (by have:=(HMV.out.lt x hx).1;omega)) (by omega)
   ·exact ((((((HK0.out.step HS.out.ok).step HK2.out).step HK3.out).set hb.1 _).set hlr _).set hlr _).set hlr _
end
section
open Go.RowKit Go.Maps
def risesB:List Int->Bool
 | a::b::l=>decide (a<b)&&risesB (b::l)
 | _=>true
set_option maxRecDepth 100000 in
theorem zh3 (v l m:Int) (w:World):Calls Tryz.prog 111 #[.int .i64 v,.int .i64 l,.int .i64 m] w fun e w'=>e=.returned (.bool (decide (l<=v)&&decide (v<=m)))/\Ok w w':=by
 go_enter Tryz.func111,Tryz.ntmps111
 go_wp2_with fail
 all_goals go_ret
 ·exact ⟨by simp [*],Ok.refl _⟩
 ·have h9:¬l<=v:=by omega
  exact ⟨by simp [h9],Ok.refl _⟩
set_option maxRecDepth 100000 in
theorem yb2 (c:Nat->Int) (tz:Option Addr) (tn tc:Nat) (w:World):Calls Tryz.prog 110 #[.agg #[.int .i64 (c 0),.int .i64 (c 1),.int .i64 (c 2),.int .i64 (c 3),.int .i64 (c 4),.int .i64 (c 5),.slice tz tn tc,.int .i64 (c 7),.int .i64 (c 8)]] w fun e w'=>e=.returned (.bool (decide (0<=c 0)&&decide (c 0<=3)))/\Ok w w':=by
 go_enter Tryz.func110,Tryz.ntmps110
 go_wp2_with fail
 refine (zh3 _ _ _ _).mono ?_
 rintro e w1 ⟨rfl,hk⟩
 go_wp2_with fail
 go_ret
 exact ⟨rfl,((Ok.refl w).alloc _).step hk⟩
set_option maxRecDepth 100000 in
theorem yb3 (c:Nat->Int) (tz:Option Addr) (tn tc:Nat) (w:World):Calls Tryz.prog 112 #[.agg #[.int .i64 (c 0),.int .i64 (c 1),.int .i64 (c 2),.int .i64 (c 3),.int .i64 (c 4),.int .i64 (c 5),.slice tz tn tc,.int .i64 (c 7),.int .i64 (c 8)]] w fun e w'=>e=.returned (.bool (decide (0<=c 1)&&decide (c 1<=3)))/\Ok w w':=by
 go_enter Tryz.func112,Tryz.ntmps112
 go_wp2_with fail
 refine (zh3 _ _ _ _).mono ?_
 rintro e w1 ⟨rfl,hk⟩
 go_wp2_with fail
 go_ret
 exact ⟨rfl,((Ok.refl w).alloc _).step hk⟩
set_option maxRecDepth 100000 in
theorem yb4 (c:Nat->Int) (tz:Option Addr) (tn tc:Nat) (w:World):Calls Tryz.prog 113 #[.agg #[.int .i64 (c 0),.int .i64 (c 1),.int .i64 (c 2),.int .i64 (c 3),.int .i64 (c 4),.int .i64 (c 5),.slice tz tn tc,.int .i64 (c 7),.int .i64 (c 8)]] w fun e w'=>e=.returned (.bool (decide (1<=c 2)&&decide (c 2<=6)))/\Ok w w':=by
 go_enter Tryz.func113,Tryz.ntmps113
 go_wp2_with fail
 refine (zh3 _ _ _ _).mono ?_
 rintro e w1 ⟨rfl,hk⟩
 go_wp2_with fail
 go_ret
 exact ⟨rfl,((Ok.refl w).alloc _).step hk⟩
set_option maxRecDepth 100000 in
theorem yb5 (c:Nat->Int) (tz:Option Addr) (tn tc:Nat) (w:World):Calls Tryz.prog 114 #[.agg #[.int .i64 (c 0),.int .i64 (c 1),.int .i64 (c 2),.int .i64 (c 3),.int .i64 (c 4),.int .i64 (c 5),.slice tz tn tc,.int .i64 (c 7),.int .i64 (c 8)]] w fun e w'=>e=.returned (.bool (decide (0<=c 3)&&decide (c 3<=6)))/\Ok w w':=by
 go_enter Tryz.func114,Tryz.ntmps114
 go_wp2_with fail
 refine (zh3 _ _ _ _).mono ?_
 rintro e w1 ⟨rfl,hk⟩
 go_wp2_with fail
 go_ret
 exact ⟨rfl,((Ok.refl w).alloc _).step hk⟩
set_option maxRecDepth 100000 in
theorem yb6 (c:Nat->Int) (tz:Option Addr) (tn tc:Nat) (w:World):Calls Tryz.prog 115 #[.agg #[.int .i64 (c 0),.int .i64 (c 1),.int .i64 (c 2),.int .i64 (c 3),.int .i64 (c 4),.int .i64 (c 5),.slice tz tn tc,.int .i64 (c 7),.int .i64 (c 8)]] w fun e w'=>e=.returned (.bool (decide (0<=c 4)&&decide (c 4<=3)))/\Ok w w':=by
 go_enter Tryz.func115,Tryz.ntmps115
 go_wp2_with fail
 refine (zh3 _ _ _ _).mono ?_
 rintro e w1 ⟨rfl,hk⟩
 go_wp2_with fail
 go_ret
 exact ⟨rfl,((Ok.refl w).alloc _).step hk⟩
set_option maxRecDepth 100000 in
theorem yb7 (c:Nat->Int) (tz:Option Addr) (tn tc:Nat) (w:World):Calls Tryz.prog 116 #[.agg #[.int .i64 (c 0),.int .i64 (c 1),.int .i64 (c 2),.int .i64 (c 3),.int .i64 (c 4),.int .i64 (c 5),.slice tz tn tc,.int .i64 (c 7),.int .i64 (c 8)]] w fun e w'=>e=.returned (.bool (decide (0<=c 5)&&decide (c 5<=3)))/\Ok w w':=by
 go_enter Tryz.func116,Tryz.ntmps116
 go_wp2_with fail
 refine (zh3 _ _ _ _).mono ?_
 rintro e w1 ⟨rfl,hk⟩
 go_wp2_with fail
 go_ret
 exact ⟨rfl,((Ok.refl w).alloc _).step hk⟩
set_option maxRecDepth 100000 in
theorem yb8 (c:Nat->Int) (tz:Option Addr) (tn tc:Nat) (w:World):Calls Tryz.prog 119 #[.agg #[.int .i64 (c 0),.int .i64 (c 1),.int .i64 (c 2),.int .i64 (c 3),.int .i64 (c 4),.int .i64 (c 5),.slice tz tn tc,.int .i64 (c 7),.int .i64 (c 8)]] w fun e w'=>e=.returned (.bool (decide (0<=c 7)&&decide (c 7<=5000)))/\Ok w w':=by
 go_enter Tryz.func119,Tryz.ntmps119
 go_wp2_with fail
 refine (zh3 _ _ _ _).mono ?_
 rintro e w1 ⟨rfl,hk⟩
 go_wp2_with fail
 go_ret
 exact ⟨rfl,((Ok.refl w).alloc _).step hk⟩
set_option maxRecDepth 100000 in
theorem yb9 (c:Nat->Int) (tz:Option Addr) (tn tc:Nat) (w:World):Calls Tryz.prog 120 #[.agg #[.int .i64 (c 0),.int .i64 (c 1),.int .i64 (c 2),.int .i64 (c 3),.int .i64 (c 4),.int .i64 (c 5),.slice tz tn tc,.int .i64 (c 7),.int .i64 (c 8)]] w fun e w'=>e=.returned (.bool (decide (0<=c 8)&&decide (c 8<=4)))/\Ok w w':=by
 go_enter Tryz.func120,Tryz.ntmps120
 go_wp2_with fail
 refine (zh3 _ _ _ _).mono ?_
 rintro e w1 ⟨rfl,hk⟩
 go_wp2_with fail
 go_ret
 exact ⟨rfl,((Ok.refl w).alloc _).step hk⟩
theorem zt1 {ts:List Int} {k:Nat} {a b:Int} (ha:ts[k]?=some a) (hb:ts[k+1]?=some b):risesB (ts.drop k)=(decide (a<b)&&risesB (ts.drop (k+1))):=by
 obtain ⟨h1,h2⟩:=List.getElem?_eq_some_iff.1 ha
 obtain ⟨h3,h4⟩:=List.getElem?_eq_some_iff.1 hb
 rw [List.drop_eq_getElem_cons h1,List.drop_eq_getElem_cons h3,h2,h4]
 rfl
theorem zS7 {ts:List Int} {k:Nat} (h:ts.length<=k+1):risesB (ts.drop k)=true:=by
 have h1:(ts.drop k).length<=1:=by rw [List.length_drop];omega
 match hd:ts.drop k,h1 with
 | [],_=>rfl
 | [a],_=>rfl
set_option maxRecDepth 100000 in
theorem yn3 (ts:List Int) (tz:Option Addr) (tc:Nat) (w:World) (h:SL w 1 (.slice tz ts.length tc) ts.length (ilL ts)) (hn:ts.length<=6):Calls Tryz.prog 118 #[.slice tz ts.length tc] w fun e w'=>e=.returned (.bool (risesB ts))/\Ok w w':=by
 have HM:=hid h
 have HL:=hid hn
 obtain ⟨N,hN⟩:∃ z,z=ts.length:=⟨_,rfl⟩
 have HN:Hid (N=ts.length):=hN
 rw [<-hN]
 clear h hn hN
 go_enter Tryz.func118,Tryz.ntmps118
 go_wp2_with fail
 go_loopw [3] (fun t3 wr=>∃ k:Nat,t3=.int .i64 ((k+1:Nat):Int)/\Hid (Ok w wr/\risesB ts=risesB (ts.drop k)/\(k=0\/k<N))) (fun t3 _=>((N:Int)-intOf t3).toNat)
 case atStart=>exact ⟨0,rfl,Ok.refl _,rfl,Or.inl rfl⟩
 case round =>
  obtain ⟨k,rfl,HR⟩:=hrel
  obtain ⟨i,hi⟩:∃ z,z=k+1:=⟨_,rfl⟩
  have HI:Hid (i=k+1):=hi
  rw [<-hi]
  clear hi
  by_cases hkl:i<N
  ·obtain ⟨b,o,c,e1,e2,e3⟩:=HM.out.at (k:=i) (by decide) (by rw [<-HN.out];exact hkl)
   injection e1 with e4 e5 e6
   subst e4 e6
   clear e5
   obtain ⟨x,hx⟩:∃ x,ts[k]?=some x:=⟨_,List.getElem?_eq_getElem (by have:=HI.out;have:=HN.out;omega)⟩
   obtain ⟨y,hy⟩:∃ y,ts[k+1]?=some y:=⟨_,List.getElem?_eq_getElem (by have:=HI.out;have:=HN.out;omega)⟩
   have r0:wr.cell? ⟨b,o+i,none⟩=some (.int .i64 y):=HR.out.1.cell (p:=⟨b,o+i,none⟩) e2 (e3 i _ (by rw [HI.out];unfold ilL;rw [List.getElem?_map,hy];rfl))
   have r1:wr.cell? ⟨b,o+k,none⟩=some (.int .i64 x):=HR.out.1.cell (p:=⟨b,o+k,none⟩) e2 (e3 k _ (by unfold ilL;rw [List.getElem?_map,hx];rfl))
   have HXY:Hid (ts[k]?=some x/\ts[k+1]?=some y):=⟨hx,hy⟩
   have lb:b<wr.heap.size:=Nat.lt_of_lt_of_le e2 HR.out.1.le
   have hkI:(i:Int)<(N:Int):=za6 hkl
   have kw:IntKind.i64.wrap ((i:Int)+1)=((i+1:Nat):Int):=zb6 (by have:=HN.out;have:=HL.out;omega)
   have km:IntKind.i64.wrap ((i:Int)-1)=((k:Nat):Int):=zd5 (by have h1:=HI.out;omega) (by have:=HN.out;have:=HL.out;have:=HI.out;omega)
   have hkk:(k:Int)<(N:Int):=by have h1:=HI.out;omega
   clear e2 e3 hx hy
   by_cases hxy:y<=x
   ·have HD:Hid (risesB ts=false):=by unfold Hid;rw [HR.out.2.1,zt1 HXY.out.1 HXY.out.2,decide_eq_false (by omega),Bool.false_and]
    go_upto_region 4 with (fail)
    go_quiet (fail)
    go_wp2_with fail
    go_ret
    exact ⟨by show Ending.returned (.bool false)=_;rw [HD.out],HR.out.1.draws _⟩
   ·have HD:Hid (risesB ts=risesB (ts.drop i)):=by unfold Hid;rw [HR.out.2.1,zt1 HXY.out.1 HXY.out.2,decide_eq_true (by omega),Bool.true_and,HI.out]
    go_upto_region 4 with (fail)
    go_quiet (fail)
    go_wp2_with fail
    exact ⟨⟨i,rfl,HR.out.1.draws _,HD.out,Or.inr hkl⟩,by show ((N:Int)-((i:Int)+1)).toNat<((N:Int)-(i:Int)).toNat;omega⟩
  ·have hkI:¬(i:Int)<(N:Int):=zb3 hkl
   go_wp2_with fail
   go_ret
   exact ⟨by show Ending.returned (.bool true)=_;rw [HR.out.2.1,zS7 (by have:=HI.out;have:=HN.out;omega)],HR.out.1⟩
end
section
open Go.RowKit Go.Maps
set_option maxRecDepth 100000 in
theorem yc0 (c:Nat->Int) (ts:List Int) (tz:Option Addr) (tc:Nat) (w:World) (h:SL w 1 (.slice tz ts.length tc) ts.length (ilL ts)):Calls Tryz.prog 117 #[.agg #[.int .i64 (c 0),.int .i64 (c 1),.int .i64 (c 2),.int .i64 (c 3),.int .i64 (c 4),.int .i64 (c 5),.slice tz ts.length tc,.int .i64 (c 7),.int .i64 (c 8)]] w fun e w'=>e=.returned (.bool (decide (ts.length<=6)&&risesB ts))/\Ok w w':=by
 have HM:Hid (∀ Y,Ok w Y->ts.length<=6->Calls Tryz.prog 118 #[.slice tz ts.length tc] Y fun e w'=>e=.returned (.bool (risesB ts))/\Ok Y w'):=fun Y hY h6=>yn3 ts tz tc Y (h.below hY) h6
 clear h
 obtain ⟨N,hN⟩:∃ z,z=ts.length:=⟨_,rfl⟩
 rw [<-hN] at HM
 rw [<-hN]
 clear hN
 by_cases h6:N<=6
 ·have h6I:(N:Int)<=6:=by omega
  have HD:Hid (decide (N<=6)=true):=decide_eq_true h6
  go_enter Tryz.func117,Tryz.ntmps117
  go_wp2_with fail
  refine (HM.out _ ((Ok.refl w).alloc _) h6).mono ?_
  rintro e w1 ⟨rfl,hk⟩
  have HK:Hid (Ok w w1):=((Ok.refl w).alloc _).step hk
  clear hk
  go_wp2_with fail
  go_ret
  exact ⟨by rw [HD.out];rfl,HK.out⟩
 ·have h6I:¬(N:Int)<=6:=by omega
  have HD:Hid (decide (N<=6)=false):=decide_eq_false h6
  go_enter Tryz.func117,Tryz.ntmps117
  go_wp2_with fail
  go_ret
  exact ⟨rfl,(Ok.refl w).alloc _⟩
def limV:Array Value:=#[.int .i64 190,.func (.func 110) #[] #[],.int .i64 191,.func (.func 112) #[] #[],.int .i64 192,.func (.func 113) #[] #[],.int .i64 193,.func (.func 114) #[] #[],.int .i64 194,.func (.func 115) #[] #[],.int .i64 195,.func (.func 116) #[] #[],.int .i64 196,.func (.func 117) #[] #[],.int .i64 197,.func (.func 119) #[] #[],.int .i64 198,.func (.func 120) #[] #[]]
theorem yn4:limV.all (·.oneCell')=true:=by unfold limV;simp [Value.oneCell']
theorem infLm:(Tryz.prog.info? 190).map (·.size)=some 18:=by kernel_rfl
set_option maxRecDepth 100000 in
theorem zS8 (w:World):Calls Tryz.prog 81 #[] w fun e w'=>e=.returned (.agg #[.int .i64 190,.func (.func 110) #[] #[],.int .i64 191,.func (.func 112) #[] #[],.int .i64 192,.func (.func 113) #[] #[],.int .i64 193,.func (.func 114) #[] #[],.int .i64 194,.func (.func 115) #[] #[],.int .i64 195,.func (.func 116) #[] #[],.int .i64 196,.func (.func 117) #[] #[],.int .i64 197,.func (.func 119) #[] #[],.int .i64 198,.func (.func 120) #[] #[]])/\Ok w w':=by
 go_enter Tryz.func81,Tryz.ntmps81
 go_wp2_with (first | (refine za9 rfl 190 _ _ rfl w.heap.size 190 #[.int .i64 0,.nilFunc,.int .i64 0,.nilFunc,.int .i64 0,.nilFunc,.int .i64 0,.nilFunc,.int .i64 0,.nilFunc,.int .i64 0,.nilFunc,.int .i64 0,.nilFunc,.int .i64 0,.nilFunc,.int .i64 0,.nilFunc] #[.int .i64 190,.func (.func 110) #[] #[],.int .i64 191,.func (.func 112) #[] #[],.int .i64 192,.func (.func 113) #[] #[],.int .i64 193,.func (.func 114) #[] #[],.int .i64 194,.func (.func 115) #[] #[],.int .i64 195,.func (.func 116) #[] #[],.int .i64 196,.func (.func 117) #[] #[],.int .i64 197,.func (.func 119) #[] #[],.int .i64 198,.func (.func 120) #[] #[]] (by rfl) (by rfl) (za4 _ _) infLm rfl yn4 ?_) | fail)
 refine bodyPost_ret (results_cell_row rfl _ _ w.heap.size 190 #[.int .i64 190,.func (.func 110) #[] #[],.int .i64 191,.func (.func 112) #[] #[],.int .i64 192,.func (.func 113) #[] #[],.int .i64 193,.func (.func 114) #[] #[],.int .i64 194,.func (.func 115) #[] #[],.int .i64 195,.func (.func 116) #[] #[],.int .i64 196,.func (.func 117) #[] #[],.int .i64 197,.func (.func 119) #[] #[],.int .i64 198,.func (.func 120) #[] #[]] (0,0) _ rfl (setRow_heap _ _ _ _ _ _ (za4 _ _)) Tryz.underlying190 rfl infLm) rfl ?_
 exact ⟨rfl,ze4 ((Ok.refl w).alloc _) (Nat.le_refl _) _⟩
end
end Go.Proofs.YtenoopfeplalnaaGreatDoor
