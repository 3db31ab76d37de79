import Derived.Test.YtihdgmiicfbbkaaGreatDoorKJd
import Derived.Test.YtihdgmiicfbbkaaGreatDoorKNe
set_option maxHeartbeats 8000000
set_option linter.all false
set_option maxRecDepth 100000
namespace Go.Proofs.YtihdgmiicfbbkaaGreatDoor
section
open Go.RowKit Go.Maps
def OffQ (g:Nat) (X Y:World):Prop:=X.heap.size<=Y.heap.size/\∀ b,b≠g->b<X.heap.size->Y.heap[b]?=X.heap[b]?
theorem OffQ.of {g:Nat} {X Y:World} (h:Ok X Y):OffQ g X Y:=⟨h.le,fun b _ hb=>Below.block h b hb⟩
theorem OffQ.row {g b:Nat} {X Y:World} {o:Obj} (h:OffQ g X Y) (hb:b≠g) (e:X.heap[b]?=some o):Y.heap[b]?=some o:=(h.2 b hb (za2 e)).trans e
theorem QS.begin (wr:World) (gm km:Nat) (a:Nat->Value) (p:Pl) (hcap:a 11=nI (p.cap:Nat)) (hm:SetN wr gm km p.mgd) (ht:Lib.TabBelow Tryz.prog wr.heap.size wr "internal/strconv.uint64pow10" .u64 Lib.pow10Tab) (hs:p.cap<=10) :
  let F:QPar:=⟨wr.heap.size+1+1,wr.heap.size,wr.heap.size+1,gm,km,wr.heap.size+1+1+1,a⟩
  QOk wr F p/\QS wr F (((wr.alloc (.map #[] 0)).alloc (.map #[] 0)).alloc (.cells (F.row (sZ) (sZ)) 70)) (sZ) (sZ) [] [] [] []:=by
 intro F;have k1:Ok wr (wr.alloc (.map #[] 0)):=(Ok.refl _).alloc _;have k2:Ok (wr.alloc (.map #[] 0)) ((wr.alloc (.map #[] 0)).alloc (.map #[] 0)):=(Ok.refl _).alloc _;have k3:Ok ((wr.alloc (.map #[] 0)).alloc (.map #[] 0)) (((wr.alloc (.map #[] 0)).alloc (.map #[] 0)).alloc (.cells (F.row (sZ) (sZ)) 70)):=(Ok.refl _).alloc _;have z1:(wr.alloc (.map #[] 0)).heap.size=wr.heap.size+1:=by simp
 have z2:((wr.alloc (.map #[] 0)).alloc (.map #[] 0)).heap.size=wr.heap.size+1+1:=by simp
 refine ⟨⟨?_,?_,?_,?_,?_,?_,?_,?_,?_,hcap,hm,ht,hs⟩,⟨k1.step (k2.step k3),by simp [F],?_,⟨[],rfl,World.ownsRow_nil _ _ _ _,fun i v x hv _=>by simp at hv⟩,World.ownsRow_nil _ _ _ _,?_,?_⟩⟩
 ·show wr.heap.size<=wr.heap.size+1+1;omega
 ·show wr.heap.size<=wr.heap.size;omega
 ·show wr.heap.size<=wr.heap.size+1;omega
 ·show wr.heap.size+1+1<wr.heap.size+1+1+1;omega
 ·show wr.heap.size<wr.heap.size+1+1+1;omega
 ·show wr.heap.size+1<wr.heap.size+1+1+1;omega
 ·show wr.heap.size+1+1≠wr.heap.size;omega
 ·show wr.heap.size+1+1≠wr.heap.size+1;omega
 ·show wr.heap.size≠wr.heap.size+1;omega
 ·show _=_
  have h:=za3 ((wr.alloc (.map #[] 0)).alloc (.map #[] 0)) (.cells (F.row (sZ) (sZ)) 70);rw [z2] at h;exact h
 ·have h:=(MapF.made wr 9).ok (k2.step k3)
  refine h.as (fun key kl _=>?_);unfold kyF
  split<;>rfl
 have h:=(NumN.made (wr.alloc (.map #[] 0))).ok k3;rw [z1] at h;obtain ⟨g,h1,h2⟩:=h;exact ⟨g,h1,fun x=>by rw [h2];simp [many]⟩
theorem yG3 (v:Nat->Value) (c:Nat->Int) (tz:Option Addr) (tn tc:Nat) (N x cap f kf:Nat) (es:List Ed) (R:List Int×List Vx×List Lk) (w:World) (hv6:∀ i,i<6->∃ ao n c,v i=.slice ao n c)
  (hr:∀ Y,Ok w Y->Calls Tryz.prog 16 #[.agg #[v 0,v 1,v 2,v 3,v 4,v 5],.agg #[nI (c 0),nI (c 1),nI (c 2),nI (c 3),nI (c 4),nI (c 5),.slice tz tn tc,nI (c 7),nI (c 8)]] Y fun e w'=>e=.returned (nI 0)/\Ok Y w')
  (hl:∀ Y,Ok w Y->Calls Tryz.prog 17 #[.agg #[v 0,v 1,v 2,v 3,v 4,v 5]] Y fun e w'=>∃ ev:Value,e=.returned (.tuple #[.agg #[v 0,v 1,v 2,v 3,v 4,v 5,nI (N:Nat),nI (x:Nat),ev],nI 0])/\w'.ownsRow Y.heap.size 103 6 ev es.length (edL es)/\Ok Y w')
  (hB:PB N (plOf cap (c 0) (c 1) es [])) (hcap:c 2=(cap:Nat)) (hf:N*cap<f) (hkf:kf<=2000) (hrun:runQ cap (c 0) (c 1) es f kf []=some R) (hT:Lib.TabBelow Tryz.prog w.heap.size w "internal/strconv.uint64pow10" .u64 Lib.pow10Tab) :
  Calls Tryz.prog 10 #[.agg #[v 0,v 1,v 2,v 3,v 4,v 5],.agg #[nI (c 0),nI (c 1),nI (c 2),nI (c 3),nI (c 4),nI (c 5),.slice tz tn tc,nI (c 7),nI (c 8)]] w fun e w'=>PsIs w N R e w':=by
 obtain ⟨g0,n0,k0,g1,n1,k1,g2,n2,k2,g3,n3,k3,g4,n4,k4,g5,n5,k5,e0,e1,e2,e3,e4,e5⟩:=slices6 hv6;rw [e0,e1,e2,e3,e4,e5] at hr hl;rw [e0,e1,e2,e3,e4,e5];have HR:=hid hr;have HL:=hid hl;have HB:=hid hB;have HCP:=hid hcap;have HN:=hid hf;have HRU:=hid hrun;have HKF:=hid hkf;have HT:=hid hT;have hmm:=@run_makeMap Tryz.prog;clear hr hl hB hcap hf hrun hT hkf e0 e1 e2 e3 e4 e5 hv6;go_enter Tryz.func10,Tryz.ntmps10;go_wp2_with fail;obtain ⟨W,hW⟩:=qq (((w.alloc (Obj.cells #[.slice g0 n0 k0,.slice g1 n1 k1,.slice g2 n2 k2,.slice g3 n3 k3,.slice g4 n4 k4,.slice g5 n5 k5] 30)).alloc (Obj.cells #[nI (c 0),nI (c 1),nI (c 2),nI (c 3),nI (c 4),nI (c 5),.slice tz tn tc,nI (c 7),nI (c 8)] 24)).alloc (Obj.cells #[sZ,sZ,sZ] 43));obtain ⟨gP,hgP⟩:=qq (w.heap.size);obtain ⟨gC,hgC⟩:=qq (w.heap.size+1);obtain ⟨gR,hgR⟩:=qq (w.heap.size+1+1);rw [<-hW,<-hgR,<-hgC,<-hgP];have HK0:Hi (Ok w W):=by rw [hW];exact (((Ok.refl w).alloc _).alloc _).alloc _
 have HRP:Hi (W.heap[gP]?=some (.cells #[.slice g0 n0 k0,.slice g1 n1 k1,.slice g2 n2 k2,.slice g3 n3 k3,.slice g4 n4 k4,.slice g5 n5 k5] 30 (0,0))):=by rw [hW,hgP];exact jj
 have HRC:Hi (W.heap[gC]?=some (.cells #[nI (c 0),nI (c 1),nI (c 2),nI (c 3),nI (c 4),nI (c 5),.slice tz tn tc,nI (c 7),nI (c 8)] 24 (0,0))):=by rw [hW,hgC];exact jj
 have HRR:Hi (W.heap[gR]?=some (.cells #[sZ,sZ,sZ] 43 (0,0))):=by rw [hW,hgR];exact jj
 have HG:Hi (w.heap.size<=gR):=by unfold Hi;omega
 clear hW hgP hgC hgR;refine (HR.o W HK0.o).mono ?_;rintro e w1 ⟨rfl,hk1⟩;have HK1:Hi (Ok W w1):=hk1;obtain ⟨p0,p1,p2,p3,p4,p5,lgp⟩:=row6 (Ok.row' hk1 HRP.o);clear hk1 HR;go_wp2_with fail;refine (HL.o w1 (HK0.o.step HK1.o)).mono ?_;rintro e w2 ⟨ev,rfl,hev,hk2⟩;obtain ⟨eo,ec,rfl⟩:=za0 hev;obtain ⟨em,hem⟩:=qq (es.length);rw [<-hem] at hev ⊢;have HEM:Hi (em=es.length):=hem;have HEV:Hi (w2.ownsRow 0 103 6 (.slice eo em ec) em (edL es)):=za7 hev (zL_ _);have HK2:Hi (Ok W w2):=HK1.o.step hk2;clear hev hk2 hem HL p0 p1 p2 p3 p4 p5 lgp
 go_upto_region 5 with (fail)
 obtain ⟨X,hX⟩:=qq (w2.alloc (Obj.cells #[.slice g0 n0 k0,.slice g1 n1 k1,.slice g2 n2 k2,.slice g3 n3 k3,.slice g4 n4 k4,.slice g5 n5 k5,nI (N:Nat),nI (x:Nat),.slice eo em ec] 62));obtain ⟨gG,hgG⟩:=qq (w2.heap.size);rw [<-hX,<-hgG];have HKX2:Hi (Ok w2 X):=by rw [hX];exact (Ok.refl _).alloc _
 have HGX:Hi (X.heap[gG]?=some (.cells #[.slice g0 n0 k0,.slice g1 n1 k1,.slice g2 n2 k2,.slice g3 n3 k3,.slice g4 n4 k4,.slice g5 n5 k5,nI (N:Nat),nI (x:Nat),.slice eo em ec] 62 (0,0))):=by rw [hX,hgG];exact za3 _ _
 have HKX:Hi (Ok W X):=HK2.o.step HKX2.o;have HEX:Hi (X.ownsRow 0 103 6 (.slice eo em ec) em (edL es)):=za1 HEV.o HKX2.o;obtain ⟨Y0,hY0⟩:=qq (X.alloc (.map #[] 0));obtain ⟨gm,hgm⟩:=qq (X.heap.size);have HM0:Hi (SetN Y0 gm 0 (fun n=>decide (n∈([]:List Int)))):=by unfold Hi;rw [hY0,hgm];simpa using SetN.made X
 have HKY:Hi (Ok X Y0):=by rw [hY0];exact (Ok.refl _).alloc _
 have HGM:Hi (gm=X.heap.size):=hgm;clear hX hgG HEV HK2 HK1 HKX2;go_wp2_with fail;rw [<-hY0,<-hgm];clear hY0 hgm
 go_loopg [] kf (fun gk wr=>∃ mg:List Int,Hi (Ok X wr/\SetN wr gm mg.length (fun n=>decide (n∈mg))/\runQ cap (c 0) (c 1) es f gk mg=some R/\mg.length+gk=kf))
 case atStart=>exact ⟨[],HKY.o,HM0.o,HRU.o,by simp⟩
 obtain ⟨mg,HS⟩:=hrel
 obtain ⟨g,hg⟩:∃ g,gk=g+1:=by
  cases gk with
  | zero=>have h1:=HS.o.2.2.1;unfold runQ at h1;cases h1
  | succ g=>exact ⟨g,rfl⟩
 have HGK:Hi (gk=g+1):=hg;obtain ⟨c0,c1,c2,c3,c4,c5,c6,c7,c8,lgc⟩:=row9 (Ok.row' (HKX.o.step HS.o.1) HRC.o);obtain ⟨q0,q1,q2,q3,q4,q5,q6,q7,q8,lgq⟩:=row9 (Ok.row' HS.o.1 HGX.o);obtain ⟨p,hp⟩:=qq (plOf cap (c 0) (c 1) es mg);have HP:Hi (p=plOf cap (c 0) (c 1) es mg):=hp;have hpB:PB N p:=by rw [hp];exact ⟨HB.o.win,HB.o.frm,HB.o.small,HB.o.pos,HB.o.unr⟩
 have hpc:p.cap=cap:=by rw [hp];rfl
 have hpe:p.es=es:=by rw [hp];rfl
 have hpm:p.mgd=fun n=>decide (n∈mg):=by rw [hp];rfl
 obtain ⟨hq1,hq2⟩:=QS.begin wr gm mg.length (fun i=>(#[.slice g0 n0 k0,.slice g1 n1 k1,.slice g2 n2 k2,.slice g3 n3 k3,.slice g4 n4 k4,.slice g5 n5 k5,nI (N:Nat),nI (x:Nat),.slice eo em ec,nI (c 0),nI (c 1),nI (c 2),nI (c 3),nI (c 4),nI (c 5),.slice tz tn tc,nI (c 7),nI (c 8)]:Array Value).getD i (sZ)) p (by show Value.int .i64 (c 2)=_;rw [HCP.o,hpc]) (by rw [hpm];exact HS.o.2.1) (fun w' hw'=>HT.o w' (Below.trans (HK0.o.step (HKX.o.step HS.o.1)) (hw'.mono (HK0.o.step (HKX.o.step HS.o.1)).le))) (by rw [hpc];exact HB.o.small.2.1)
 go_upto_region 7 with (fail)
 obtain ⟨F,hF⟩:∃ z:QPar,z=⟨wr.heap.size+1+1,wr.heap.size,wr.heap.size+1,gm,mg.length,wr.heap.size+1+1+1,fun i=>(#[.slice g0 n0 k0,.slice g1 n1 k1,.slice g2 n2 k2,.slice g3 n3 k3,.slice g4 n4 k4,.slice g5 n5 k5,nI (N:Nat),nI (x:Nat),.slice eo em ec,nI (c 0),nI (c 1),nI (c 2),nI (c 3),nI (c 4),nI (c 5),.slice tz tn tc,nI (c 7),nI (c 8)]:Array Value).getD i (sZ)⟩:=⟨_,rfl⟩;obtain ⟨Z,hZ⟩:=qq (((wr.alloc (.map #[] 0)).alloc (.map #[] 0)).alloc (Obj.cells #[.slice g0 n0 k0,.slice g1 n1 k1,.slice g2 n2 k2,.slice g3 n3 k3,.slice g4 n4 k4,.slice g5 n5 k5,nI (N:Nat),nI (x:Nat),.slice eo em ec,nI (c 0),nI (c 1),nI (c 2),nI (c 3),nI (c 4),nI (c 5),.slice tz tn tc,nI (c 7),nI (c 8),.map (some gm),sZ,sZ,.map (some wr.heap.size),.map (some (wr.heap.size+1))] 70));have HQ1:Hi (QOk wr F p):=by rw [hF];exact hq1
 have HQ2:Hi (QS wr F Z (sZ) (sZ) [] [] [] []):=by rw [hF,hZ];exact hq2
 have hgf:wr.heap.size+1+1=F.gf:=by rw [hF]
 have HFD:Hi (Calls Tryz.prog 18 #[pA F.gf 0] Z fun e w'=>QdIs wr F p f e w'):=yG2 N f c tz tn tc Z HQ2.o HQ1.o hpB (by rw [hpc];exact HN.o) (by rw [hF,hpe,<-HEM.o];exact za1 HEX.o HS.o.1) (by rw [hF,hp];exact ⟨rfl,rfl,rfl,rfl,rfl,rfl,rfl,rfl,rfl,rfl,rfl⟩);have HPB:=hid hpB;have HFG:Hi (wr.heap.size<=F.gf/\F.gf<F.B/\wr.heap.size<=F.B):=by unfold Hi;rw [hF];exact ⟨by show _<=_+1+1;omega,by show _+1+1<_+1+1+1;omega,by show _<=_+1+1+1;omega⟩
 rw [<-hZ,hgf];clear hF hZ hgf hq1 hq2 hp hpB hpc hpe hpm hg c0 c1 c2 c3 c4 c5 c6 c7 c8 lgc q0 q1 q2 q3 q4 q5 q6 q7 q8 lgq;go_wp2_with fail;refine HFD.o.mono ?_;rintro e w4 hv;unfold QdIs at hv
 cases hpf:p.find f with
 | inl n =>
  rw [hpf] at hv;obtain ⟨rfl,hk4⟩:=hv;obtain ⟨hn1,hn2⟩:=zz5 (p:=p) HPB.o.pos HPB.o.win hpf;obtain ⟨w5,hput,hm5,hg5⟩:=(HS.o.2.1.ok hk4).put Tryz.underlying65 (x:=n) oM (by have:=HB.o.small.1;omega) (by have:=HKF.o;have:=HS.o.2.2.2;unfold maxLen;omega)
  have e5:(fun y:Int=>y==n||decide (y∈mg))=fun y=>decide (y∈n::mg):=by
   funext y
   by_cases hy:y=n
   ·simp [hy]
   simp [hy]
  rw [e5] at hm5;have HO5:Hi (Ok X w5):=Ok.grown (HS.o.1.step hk4) hg5 (fun b e=>by rw [<-Option.some.inj e];have:=HGM.o;omega);have HM5:=hid hm5
  have HRN:Hi (runQ cap (c 0) (c 1) es f g (n::mg)=some R):=by have h1:=HS.o.2.2.1;rw [HGK.o] at h1;unfold runQ at h1;rw [<-HP.o,hpf] at h1;exact h1
  have hn0:(0:Int)<=n:=hn2.1;clear hk4 hn1 hn2 e5 hm5 hg5 hpf;go_wp2_with fail
  go_roundg g
  case measure=>have:=HGK.o;omega
  case rel=>exact ⟨n::mg,HO5.o,HM5.o,HRN.o,by have h:=HS.o.2.2.2;have h2:=HGK.o;rw [List.length_cons];omega⟩
 | inr r =>
  rw [hpf] at hv;obtain ⟨rfl,vv,lv,hS4⟩:=hv
  have HRE:Hi (R=(mg,r.1,r.2)):=by
   have h1:=HS.o.2.2.1;rw [HGK.o] at h1;unfold runQ at h1;rw [<-HP.o,hpf] at h1
   injection h1 with h1
   exact h1.symm
  have HS4:=hid hS4;obtain ⟨tl,htl,hvo,hold⟩:=hS4.vo;obtain ⟨vo,vc,rfl⟩:=za0 hvo;obtain ⟨lo,lc,rfl⟩:=za0 hS4.lo;have HM4:Hi (∀ Y,Ok w4 Y->SetN Y gm mg.length (fun n=>decide (n∈mg))):=fun Y hY=>HS.o.2.1.ok (hS4.ok.step hY);have HX4:Hi (Ok X w4):=HS.o.1.step hS4.ok;clear hS4 htl hvo hold hpf;go_wp2_with fail;go_loopw [12,13] (fun t12 t13 wi=>∃ k:Nat,t13=nI (k:Nat)/\k<=N/\Hi (Ok w4 wi/\wi.ownsRow w4.heap.size 3 1 t12 (mgL k mg).length (ilL (mgL k mg)))) (fun _ t13 _=>((N:Int)-intOf t13).toNat)
  case atStart=>exact ⟨0,rfl,zL_ _,Ok.refl _,World.ownsRow_nil _ _ _ _⟩
  obtain ⟨k,rfl,hk,HR⟩:=hrel;obtain ⟨q0,q1,q2,q3,q4,q5,q6,q7,q8,lgq⟩:=row9 (Ok.row' (HX4.o.step HR.o.1) HGX.o);obtain ⟨mo,mc,hmv⟩:=za0 HR.o.2;subst hmv;obtain ⟨mn,hmn⟩:=qq ((mgL k mg).length);have HMN:Hi (mn=(mgL k mg).length/\mn<=k):=⟨hmn,by rw [hmn];exact yD3 k mg⟩;rw [<-hmn] at HR ⊢;clear hmn;by_cases hkl:k<N
  ·have hkl':(k:Int)<(N:Int):=za5 hkl
   have kw:IntKind.i64.wrap ((k:Int)+1)=((k+1:Nat):Int):=zb3 (by have:=HB.o.small.1;omega);have hlk:=(HM4.o wr HR.o.1).look Tryz.underlying65 (x:=(k:Int)) oM (by have:=HB.o.small.1;omega);by_cases hm:(k:Int)∈mg
   ·rw [decide_eq_true hm] at hlk
    have HXX:Hi (mgL (k+1) mg=mgL k mg++[(k:Int)]):=by unfold Hi;rw [zQ5,if_pos hm]
    clear hm
    go_wp2_with (first | (at_builtin;refine ze4 rfl _ _ 25 3 1 8 _ rfl Tryz.underlying25 infIn (by rfl) (by decide) (by decide) w4.heap.size _ mn (ilL (mgL k mg)) (by rfl) (World.ownsRow.alloc HR.o.2 _) (.slice (sA wr.heap.size 0) 1 1) 1 [nI (k:Nat)] (by rfl) (SL.one wr 3 [nI (k:Nat)] rfl (by simp [Value.oneCell'])) (by have h1:=HMN.o.2;have:=HB.o.small.1;omega) (by have h1:=HR.o.1.le;simp;omega) ?_;intro v9 w9 z1 z2;have HH9:=hid z1;have HK9:Hi (Ok w4 w9):=Ok.grown (HR.o.1.alloc _) z2 (fun b e=>((World.ownsRow.alloc HR.o.2 (Obj.cells #[nI (k:Nat)] 3)).lt b e).1);clear z1 z2) | fail)
    go_roundw
    case rel=>exact ⟨k+1,rfl,hkl,HK9.o,by rw [HXX.o,List.length_append,List.length_singleton,zJ7,<-HMN.o.1];exact HH9.o⟩
    case measure=>simp only [intOf];omega
   rw [decide_eq_false hm] at hlk;have HXX:Hi (mgL (k+1) mg=mgL k mg):=by unfold Hi;rw [zQ5,if_neg hm,List.append_nil]
   clear hm;go_wp2_with fail;go_roundw
   case rel=>exact ⟨k+1,rfl,hkl,HR.o.1,by rw [HXX.o,<-HMN.o.1];exact HR.o.2⟩
   case measure=>simp only [intOf];omega
  have hkl':¬(k:Int)<(N:Int):=oM;have HKE:Hi (k=N):=by unfold Hi;omega
  go_upto_region 16 with (fail)
  clear q0 q1 q2 q3 q4 q5 q6 q7 q8 lgq hkl';have HSI:=hid (HS4.o.step HR.o.1);have HWI:Hi (Ok W wr):=HKX.o.step (HX4.o.step HR.o.1);have HRI:Hi (wr.heap[gR]?=_):=Ok.row' HWI.o HRR.o;have HGF:Hi (F.gf≠gR/\gR<F.B):=by have h1:=za2 HRR.o;have h2:=HKX.o.le;have h3:=HS.o.1.le;have h4:=HFG.o;unfold Hi;omega
  have HSC:Hi (∀ Y,OffQ gR wr Y->Y.cell? (aD F.gf 19)=some (.slice vo r.1.length vc)/\Y.cell? (aD F.gf 20)=some (.slice lo r.2.length lc)/\F.gf<Y.heap.size):=fun Y hY=>by have h:=hY.row HGF.o.1 HSI.o.row;exact ⟨(cell_of_row _ _ 19 _ _ _ h).trans rfl,(cell_of_row _ _ 20 _ _ _ h).trans rfl,za2 h⟩
  have S0:OffQ gR wr wr.drew:=OffQ.of (Below.drew (Ok.refl wr));refine zd5 (fun Y=>OffQ gR wr Y) 11 kR ?_;refine tL 0 (pA F.gf 0) S0 ?_ ?_
  ·intro w' s0;clear s0;go_simp;try with_reducible rfl
  simp only [pu];refine tL 1 (pA F.gf 0) S0 ?_ ?_
  ·intro w' s0;obtain ⟨z0,z1,z2⟩:=HSC.o w' s0;clear s0;go_simp;try with_reducible rfl
  simp only [pu];refine tL 2 (pA F.gf 19) S0 ?_ ?_
  ·intro w' s0;obtain ⟨z0,z1,z2⟩:=HSC.o w' s0;clear s0;go_simp;try with_reducible rfl
  simp only [pu];refine tL 3 (.slice vo r.1.length vc) S0 ?_ ?_
  ·intro w' s0;obtain ⟨z0,z1,z2⟩:=HSC.o w' s0;clear s0;go_simp;try with_reducible rfl
  simp only [pu];refine tL 4 (pA F.gf 0) S0 ?_ ?_
  ·intro w' s0;clear s0;go_simp;try with_reducible rfl
  simp only [pu];refine tL 5 (pA F.gf 0) S0 ?_ ?_
  ·intro w' s0;obtain ⟨z0,z1,z2⟩:=HSC.o w' s0;clear s0;go_simp;try with_reducible rfl
  simp only [pu];refine tL 6 (pA F.gf 20) S0 ?_ ?_
  ·intro w' s0;obtain ⟨z0,z1,z2⟩:=HSC.o w' s0;clear s0;go_simp;try with_reducible rfl
  simp only [pu];refine tL 7 (.slice lo r.2.length lc) S0 ?_ ?_
  ·intro w' s0;obtain ⟨z0,z1,z2⟩:=HSC.o w' s0;clear s0;go_simp;try with_reducible rfl
  simp only [pu];refine tL 8 (.slice mo mn mc) S0 ?_ ?_
  ·intro w' s0;clear s0;go_simp;try with_reducible rfl
  simp only [pu];refine zb0 (i:=9) kR rfl (fun K hK=>?_);go_simp;refine hK.out _ _ (fun _=>S0) ?_;clear hK K
  try simp only [pu]
  refine zb0 (i:=10) kR rfl (fun K hK=>?_);refine zg9 rfl 43 _ _ rfl gR 43 _ #[.slice vo r.1.length vc,.slice lo r.2.length lc,.slice mo mn mc] (by rfl) (by rfl) (Ok.row' (Below.drew (Ok.refl wr)) HRI.o) infPt rfl (by simp [Value.oneCell']) rfl ?_;refine hK.out _ _ (fun _=>⟨by rw [size_setRow];exact S0.1,fun b hb hl=>(setRow_other _ _ _ _ hb).trans (S0.2 b hb hl)⟩) ?_;clear hK K;refine zb0 (i:=11) kR rfl (fun K hK=>?_);go_simp;refine hK.out _ _ (fun h=>absurd rfl h) ?_;clear hK K;refine zd4 kR ?_ _;go_wp2_with fail;(try simp only [Exit.inBlock,Exit.then]);refine bodyPost_ret (zc0 rfl _ _ gR 43 #[.slice vo r.1.length vc,.slice lo r.2.length lc,.slice mo mn mc] (0,0) _ rfl (setRow_heap _ _ _ _ _ _ (Ok.row' (Below.drew (Ok.refl wr)) HRI.o)) Tryz.underlying43 rfl infPt) rfl ?_;have hs2:∀ b,F.B<=b->(wr.drew.setRow gR #[.slice vo r.1.length vc,.slice lo r.2.length lc,.slice mo mn mc]).heap[b]?=wr.heap[b]?:=fun b hb=>setRow_other _ _ _ _ (by have:=HGF.o;omega);have hle:w.heap.size<=F.B:=by have h1:=HK0.o.le;have h2:=HKX.o.le;have h3:=HS.o.1.le;have h4:=HFG.o;omega
  have hl4:F.B<=w4.heap.size:=HS4.o.le;rw [HRE.o];refine ⟨_,_,_,rfl,(HSI.o.vo.far fun b hb _=>hs2 b hb).base hle,za7 (zb4 HSI.o.lo fun b hb=>hs2 b (HSI.o.lo.lt b hb).1) hle,?_,zd0 (Below.drew (HK0.o.step HWI.o)) HG.o _⟩;show World.ownsRow _ _ _ _ _ (mgL N mg).length (ilL (mgL N mg));have h9:=HR.o.2;have e9:(mgL N mg).length=mn:=by rw [HMN.o.1,HKE.o]
  rw [HKE.o] at h9;rw [e9];exact za7 (zb4 h9 fun b hb=>hs2 b (Nat.le_trans hl4 (h9.lt b hb).1)) (Nat.le_trans hle hl4)
end
section
open Go.RowKit
theorem yG4 (c:Nat->Int) (ts:List Int) (tz:Option Addr) (tc:Nat) (w:World) (h:SL w 1 (.slice tz ts.length tc) ts.length (ilL ts)) :
  Calls Tryz.prog 31 #[.agg #[nI (c 0),nI (c 1),nI (c 2),nI (c 3),nI (c 4),nI (c 5),.slice tz ts.length tc,nI (c 7),nI (c 8)]] w fun e w'=>e=.returned (nI (refuse c ts))/\Ok w w':=by
 have HM:=hid h;obtain ⟨N,hN⟩:=qq (ts.length);have HN:Hi (N=ts.length):=hN;rw [<-hN];clear h hN;have HL:Hi (∀ j,j<0->limB c ts j=true):=fun j h=>absurd h (Nat.not_lt_zero j);go_enter Tryz.func31,Tryz.ntmps31;by_cases a0:c 0<0
 ·have HF:Hi (refuse c ts=190):=zg0 (k:=0) (by decide) HL.o (by show (decide (0<=c 0)&&decide (c 0<=3))=false;rw [decide_eq_false (by omega)];rfl)
  go_wp2_with fail;go_ret;exact ⟨by rw [HF.o];rfl,(Ok.refl w).alloc _⟩
 by_cases b0:3<c 0
 ·have HF:Hi (refuse c ts=190):=zg0 (k:=0) (by decide) HL.o (by show (decide (0<=c 0)&&decide (c 0<=3))=false;rw [decide_eq_false (show ¬c 0<=3 by omega),Bool.and_false])
  go_wp2_with fail;go_ret;exact ⟨by rw [HF.o];rfl,(Ok.refl w).alloc _⟩
 replace HL:=hid (zg1 HL.o (show (decide (0<=c 0)&&decide (c 0<=3))=true by rw [decide_eq_true (by omega),decide_eq_true (by omega)];rfl));by_cases a1:c 1<0
 ·have HF:Hi (refuse c ts=191):=zg0 (k:=1) (by decide) HL.o (by show (decide (0<=c 1)&&decide (c 1<=3))=false;rw [decide_eq_false (by omega)];rfl)
  go_wp2_with fail;go_ret;exact ⟨by rw [HF.o];rfl,(Ok.refl w).alloc _⟩
 by_cases b1:3<c 1
 ·have HF:Hi (refuse c ts=191):=zg0 (k:=1) (by decide) HL.o (by show (decide (0<=c 1)&&decide (c 1<=3))=false;rw [decide_eq_false (show ¬c 1<=3 by omega),Bool.and_false])
  go_wp2_with fail;go_ret;exact ⟨by rw [HF.o];rfl,(Ok.refl w).alloc _⟩
 replace HL:=hid (zg1 HL.o (show (decide (0<=c 1)&&decide (c 1<=3))=true by rw [decide_eq_true (by omega),decide_eq_true (by omega)];rfl));by_cases a2:c 2<1
 ·have HF:Hi (refuse c ts=192):=zg0 (k:=2) (by decide) HL.o (by show (decide (1<=c 2)&&decide (c 2<=6))=false;rw [decide_eq_false (by omega)];rfl)
  go_wp2_with fail;go_ret;exact ⟨by rw [HF.o];rfl,(Ok.refl w).alloc _⟩
 by_cases b2:6<c 2
 ·have HF:Hi (refuse c ts=192):=zg0 (k:=2) (by decide) HL.o (by show (decide (1<=c 2)&&decide (c 2<=6))=false;rw [decide_eq_false (show ¬c 2<=6 by omega),Bool.and_false])
  go_wp2_with fail;go_ret;exact ⟨by rw [HF.o];rfl,(Ok.refl w).alloc _⟩
 replace HL:=hid (zg1 HL.o (show (decide (1<=c 2)&&decide (c 2<=6))=true by rw [decide_eq_true (by omega),decide_eq_true (by omega)];rfl));by_cases a3:c 3<0
 ·have HF:Hi (refuse c ts=193):=zg0 (k:=3) (by decide) HL.o (by show (decide (0<=c 3)&&decide (c 3<=6))=false;rw [decide_eq_false (by omega)];rfl)
  go_wp2_with fail;go_ret;exact ⟨by rw [HF.o];rfl,(Ok.refl w).alloc _⟩
 by_cases b3:6<c 3
 ·have HF:Hi (refuse c ts=193):=zg0 (k:=3) (by decide) HL.o (by show (decide (0<=c 3)&&decide (c 3<=6))=false;rw [decide_eq_false (show ¬c 3<=6 by omega),Bool.and_false])
  go_wp2_with fail;go_ret;exact ⟨by rw [HF.o];rfl,(Ok.refl w).alloc _⟩
 replace HL:=hid (zg1 HL.o (show (decide (0<=c 3)&&decide (c 3<=6))=true by rw [decide_eq_true (by omega),decide_eq_true (by omega)];rfl));by_cases a4:c 4<0
 ·have HF:Hi (refuse c ts=194):=zg0 (k:=4) (by decide) HL.o (by show (decide (0<=c 4)&&decide (c 4<=3))=false;rw [decide_eq_false (by omega)];rfl)
  go_wp2_with fail;go_ret;exact ⟨by rw [HF.o];rfl,(Ok.refl w).alloc _⟩
 by_cases b4:3<c 4
 ·have HF:Hi (refuse c ts=194):=zg0 (k:=4) (by decide) HL.o (by show (decide (0<=c 4)&&decide (c 4<=3))=false;rw [decide_eq_false (show ¬c 4<=3 by omega),Bool.and_false])
  go_wp2_with fail;go_ret;exact ⟨by rw [HF.o];rfl,(Ok.refl w).alloc _⟩
 replace HL:=hid (zg1 HL.o (show (decide (0<=c 4)&&decide (c 4<=3))=true by rw [decide_eq_true (by omega),decide_eq_true (by omega)];rfl));by_cases a5:c 5<0
 ·have HF:Hi (refuse c ts=195):=zg0 (k:=5) (by decide) HL.o (by show (decide (0<=c 5)&&decide (c 5<=3))=false;rw [decide_eq_false (by omega)];rfl)
  go_wp2_with fail;go_ret;exact ⟨by rw [HF.o];rfl,(Ok.refl w).alloc _⟩
 by_cases b5:3<c 5
 ·have HF:Hi (refuse c ts=195):=zg0 (k:=5) (by decide) HL.o (by show (decide (0<=c 5)&&decide (c 5<=3))=false;rw [decide_eq_false (show ¬c 5<=3 by omega),Bool.and_false])
  go_wp2_with fail;go_ret;exact ⟨by rw [HF.o];rfl,(Ok.refl w).alloc _⟩
 replace HL:=hid (zg1 HL.o (show (decide (0<=c 5)&&decide (c 5<=3))=true by rw [decide_eq_true (by omega),decide_eq_true (by omega)];rfl));by_cases a6:(6:Int)<(N:Int)
 ·have HF:Hi (refuse c ts=196):=zg0 (k:=6) (by decide) HL.o (by show (decide (ts.length<=6)&&risesB ts)=false;rw [decide_eq_false (by have:=HN.o;omega)];rfl)
  go_wp2_with fail;go_ret;exact ⟨by rw [HF.o];rfl,(Ok.refl w).alloc _⟩
 have HN6:Hi (N<=6):=by unfold Hi;omega
 go_upto_region 15 with (fail)
 obtain ⟨W,hW⟩:=qq (w.alloc (Obj.cells #[nI (c 0),nI (c 1),nI (c 2),nI (c 3),nI (c 4),nI (c 5),.slice tz N tc,nI (c 7),nI (c 8)] 24));obtain ⟨gC,hgC⟩:=qq (w.heap.size);rw [<-hW,<-hgC];have HK0:Hi (Ok w W):=by rw [hW];exact (Ok.refl w).alloc _
 have HC:Hi (W.heap[gC]?=some (.cells #[nI (c 0),nI (c 1),nI (c 2),nI (c 3),nI (c 4),nI (c 5),.slice tz N tc,nI (c 7),nI (c 8)] 24 (0,0))):=by rw [hW,hgC];exact za3 _ _
 clear hW hgC a0 b0 a1 b1 a2 b2 a3 b3 a4 b4 a5 b5 a6;go_wp2_with fail;go_loopw [3] (fun t3 wr=>∃ k:Nat,t3=nI ((k+1:Nat):Int)/\Hi (Ok W wr/\risesB ts=risesB (ts.drop k)/\(k=0\/k<N))) (fun t3 _=>((N:Int)-intOf t3).toNat)
 case atStart=>exact ⟨0,rfl,Ok.refl _,rfl,Or.inl rfl⟩
 obtain ⟨k,rfl,HR⟩:=hrel;obtain ⟨i,hi⟩:=qq (k+1);have HI:Hi (i=k+1):=hi;rw [<-hi];clear hi;obtain ⟨p0,p1,p2,p3,p4,p5,p6,p7,p8,lgp⟩:=row9 (Ok.row' HR.o.1 HC.o);by_cases hkl:i<N
 ·obtain ⟨b,o,c',e1,e2,e3⟩:=HM.o.at (k:=i) (by decide) (by rw [<-HN.o];exact hkl)
  injection e1 with e4 e5 e6
  subst e4 e6;clear e5;obtain ⟨x,hx⟩:∃ x,ts[k]?=some x:=⟨_,gG_ (by have:=HI.o;have:=HN.o;omega)⟩;obtain ⟨y,hy⟩:∃ y,ts[k+1]?=some y:=⟨_,gG_ (by have:=HI.o;have:=HN.o;omega)⟩;have hKR:=HK0.o.step HR.o.1;have r0:wr.cell? ⟨b,o+i,none⟩=some (nI y):=hKR.cell (p:=⟨b,o+i,none⟩) e2 (e3 i _ (by rw [HI.o];unfold ilL;rw [List.getElem?_map,hy];rfl));have r1:wr.cell? ⟨b,o+k,none⟩=some (nI x):=hKR.cell (p:=⟨b,o+k,none⟩) e2 (e3 k _ (by unfold ilL;rw [List.getElem?_map,hx];rfl));have HXY:Hi (ts[k]?=some x/\ts[k+1]?=some y):=⟨hx,hy⟩;have lb:b<wr.heap.size:=lL_ e2 hKR.le;have hkI:(i:Int)<(N:Int):=za5 hkl;have kw:IntKind.i64.wrap ((i:Int)+1)=((i+1:Nat):Int):=zb3 (by have:=HN6.o;omega);have km:IntKind.i64.wrap ((i:Int)-1)=((k:Nat):Int):=zd3 (by have h1:=HI.o;omega) (by have:=HN6.o;have:=HI.o;omega);have hkk:(k:Int)<(N:Int):=by have h1:=HI.o;omega
  clear e2 e3 hx hy hKR;by_cases hxy:y<=x
  ·have HD:Hi (refuse c ts=196):=zg0 (k:=6) (by decide) HL.o (by show (decide (ts.length<=6)&&risesB ts)=false;rw [HR.o.2.1,zt7 HXY.o.1 HXY.o.2,decide_eq_false (show ¬x<y by omega),Bool.false_and,Bool.and_false])
   go_upto_region 18 with (fail)
   go_quiet (fail);go_wp2_with fail;go_ret;exact ⟨by rw [HD.o];rfl,(HK0.o.step HR.o.1).draws _⟩
  have HD:Hi (risesB ts=risesB (ts.drop i)):=by unfold Hi;rw [HR.o.2.1,zt7 HXY.o.1 HXY.o.2,decide_eq_true (by omega),Bool.true_and,HI.o]
  go_upto_region 18 with (fail)
  go_quiet (fail);go_wp2_with fail;exact ⟨⟨i,rfl,HR.o.1.draws _,HD.o,Or.inr hkl⟩,by show ((N:Int)-((i:Int)+1)).toNat<((N:Int)-(i:Int)).toNat;omega⟩
 have hkI:¬(i:Int)<(N:Int):=zb2 hkl;replace HL:=hid (zg1 HL.o (show (decide (ts.length<=6)&&risesB ts)=true by rw [decide_eq_true (by have:=HN.o;have:=HN6.o;omega),HR.o.2.1,zU8 (by have:=HI.o;have:=HN.o;omega)];rfl));by_cases a7:c 7<0
 ·have HF:Hi (refuse c ts=197):=zg0 (k:=7) (by decide) HL.o (by show (decide (0<=c 7)&&decide (c 7<=5000))=false;rw [decide_eq_false (by omega)];rfl)
  go_wp2_with fail;go_ret;exact ⟨by rw [HF.o];rfl,HK0.o.step HR.o.1⟩
 by_cases b7:5000<c 7
 ·have HF:Hi (refuse c ts=197):=zg0 (k:=7) (by decide) HL.o (by show (decide (0<=c 7)&&decide (c 7<=5000))=false;rw [decide_eq_false (show ¬c 7<=5000 by omega),Bool.and_false])
  go_wp2_with fail;go_ret;exact ⟨by rw [HF.o];rfl,HK0.o.step HR.o.1⟩
 replace HL:=hid (zg1 HL.o (show (decide (0<=c 7)&&decide (c 7<=5000))=true by rw [decide_eq_true (by omega),decide_eq_true (by omega)];rfl));by_cases a8:c 8<0
 ·have HF:Hi (refuse c ts=198):=zg0 (k:=8) (by decide) HL.o (by show (decide (0<=c 8)&&decide (c 8<=4))=false;rw [decide_eq_false (by omega)];rfl)
  go_wp2_with fail;go_ret;exact ⟨by rw [HF.o];rfl,HK0.o.step HR.o.1⟩
 by_cases b8:4<c 8
 ·have HF:Hi (refuse c ts=198):=zg0 (k:=8) (by decide) HL.o (by show (decide (0<=c 8)&&decide (c 8<=4))=false;rw [decide_eq_false (show ¬c 8<=4 by omega),Bool.and_false])
  go_wp2_with fail;go_ret;exact ⟨by rw [HF.o];rfl,HK0.o.step HR.o.1⟩
 replace HL:=hid (zg1 HL.o (show (decide (0<=c 8)&&decide (c 8<=4))=true by rw [decide_eq_true (by omega),decide_eq_true (by omega)];rfl));have HD:Hi (refuse c ts=0):=yd8 HL.o;go_wp2_with fail;go_ret;exact ⟨by rw [HD.o];rfl,HK0.o.step HR.o.1⟩
end
section
open Go.RowKit Go.Maps
theorem yF9 (v:Nat->Value) (c:Nat->Int) (ts:List Int) (tz:Option Addr) (tc:Nat) (b:Bool) (w:World) (hv6:∀ i,i<6->∃ ao n c,v i=.slice ao n c) (hts:SL w 1 (.slice tz ts.length tc) ts.length (ilL ts))
  (hg:∀ Y,Ok w Y->Calls Tryz.prog 30 #[.agg #[v 0,v 1,v 2,v 3,v 4,v 5]] Y fun e w'=>e=.returned (.bool b)/\Ok Y w') :
  Calls Tryz.prog 16 #[.agg #[v 0,v 1,v 2,v 3,v 4,v 5],.agg #[nI (c 0),nI (c 1),nI (c 2),nI (c 3),nI (c 4),nI (c 5),.slice tz ts.length tc,nI (c 7),nI (c 8)]] w fun e w'=>e=.returned (nI (if b=true then refuse c ts else 2))/\Ok w w':=by
 obtain ⟨g0,n0,k0,g1,n1,k1,g2,n2,k2,g3,n3,k3,g4,n4,k4,g5,n5,k5,e0,e1,e2,e3,e4,e5⟩:=slices6 hv6;rw [e0,e1,e2,e3,e4,e5] at hg;rw [e0,e1,e2,e3,e4,e5];have HG:=hid hg;have HTS:=hid hts;have HCK:Hi (∀ Y,Ok w Y->Calls Tryz.prog 31 #[.agg #[nI (c 0),nI (c 1),nI (c 2),nI (c 3),nI (c 4),nI (c 5),.slice tz ts.length tc,nI (c 7),nI (c 8)]] Y fun e w'=>e=.returned (nI (refuse c ts))/\Ok Y w'):=fun Y hY=>yG4 c ts tz tc Y (hts.below hY);obtain ⟨tn,htn⟩:=qq (ts.length);rw [<-htn] at HCK ⊢;clear hg hts e0 e1 e2 e3 e4 e5 hv6 htn;go_enter Tryz.func16,Tryz.ntmps16;go_wp2_with fail;refine (HG.o _ (((Ok.refl w).alloc _).alloc _)).mono ?_;rintro e w1 ⟨rfl,hk1⟩;have HK1:Hi (Ok w w1):=(((Ok.refl w).alloc _).alloc _).step hk1;have HC1:Hi (w1.heap[w.heap.size+1]?=some (.cells #[nI (c 0),nI (c 1),nI (c 2),nI (c 3),nI (c 4),nI (c 5),.slice tz tn tc,nI (c 7),nI (c 8)] 24 (0,0))):=Ok.row' hk1 jj;obtain ⟨c0,c1,c2,c3,c4,c5,c6,c7,c8,lgc⟩:=row9 HC1.o;clear hk1 HG
 cases b with
 | false =>
  go_wp2_with fail;go_ret;exact ⟨rfl,HK1.o⟩
 | true =>
  go_wp2_with fail;refine (HCK.o w1 HK1.o).mono ?_;rintro e w2 ⟨rfl,hk2⟩;have HK2:Hi (Ok w w2):=HK1.o.step hk2;clear hk2;go_wp2_with fail;go_ret;exact ⟨rfl,HK2.o⟩
theorem yG5 (v:Nat->Value) (c:Nat->Int) (tz:Option Addr) (tn tc:Nat) (r:Int) (hr0:r≠0) (w:World) (hv6:∀ i,i<6->∃ ao n c,v i=.slice ao n c)
  (hr:∀ Y,Ok w Y->Calls Tryz.prog 16 #[.agg #[v 0,v 1,v 2,v 3,v 4,v 5],.agg #[nI (c 0),nI (c 1),nI (c 2),nI (c 3),nI (c 4),nI (c 5),.slice tz tn tc,nI (c 7),nI (c 8)]] Y fun e w'=>e=.returned (nI r)/\Ok Y w') :
  Calls Tryz.prog 10 #[.agg #[v 0,v 1,v 2,v 3,v 4,v 5],.agg #[nI (c 0),nI (c 1),nI (c 2),nI (c 3),nI (c 4),nI (c 5),.slice tz tn tc,nI (c 7),nI (c 8)]] w fun e w'=>e=.returned (.tuple #[.agg #[sZ,sZ,sZ],nI r])/\Ok w w':=by
 obtain ⟨g0,n0,k0,g1,n1,k1,g2,n2,k2,g3,n3,k3,g4,n4,k4,g5,n5,k5,e0,e1,e2,e3,e4,e5⟩:=slices6 hv6;rw [e0,e1,e2,e3,e4,e5] at hr;rw [e0,e1,e2,e3,e4,e5];have HR:=hid hr;have hrb:(r != 0)=true:=bne_iff_ne.2 hr0;clear hr e0 e1 e2 e3 e4 e5 hv6 hr0;go_enter Tryz.func10,Tryz.ntmps10;go_wp2_with fail;refine (HR.o _ ((((Ok.refl w).alloc _).alloc _).alloc _)).mono ?_;rintro e w1 ⟨rfl,hk1⟩;have HK1:Hi (Ok w w1):=((((Ok.refl w).alloc _).alloc _).alloc _).step hk1;obtain ⟨gR,hgR⟩:=qq (w.heap.size+1+1);have HRR:Hi (w1.heap[gR]?=some (.cells #[sZ,sZ,sZ] 43 (0,0))):=Ok.row' hk1 (by rw [hgR];exact jj);have HG:Hi (w.heap.size<=gR):=by unfold Hi;omega
 rw [<-hgR];obtain ⟨d0,d1,d2,d3,d4,d5⟩:=za9 HRR.o;have ld:=za2 HRR.o;clear hk1 hgR HR;go_wp2_with fail;(try simp only [Exit.inBlock,Exit.then]);refine bodyPost_ret (zc0 rfl _ _ gR 43 #[_,_,_] (0,0) _ rfl (zd9 HRR.o _ _ _) Tryz.underlying43 rfl infPt) rfl ?_;exact ⟨rfl,HK1.o.set3 HG.o _ _ _⟩
def alV (ls:List Lk) (u:Nat) (y:Int):Int:=match goP ls u [y] with | some t=>(t:Int) | none => -1
def hitL (u:Nat) (y:Int) (l:Lk):Bool:=decide ((l.1:Int)=(u:Int))&&decide ((l.2.2:Int)=y)
theorem yH2 (ls:List Lk) (u:Nat) (y:Int):goP ls u [y]=(ls.find? (hitL u y)).map fun l=>l.2.1:=by
 rw [yy1];by_cases h:0<=y
 ·rw [if_pos h]
  unfold nextV
  congr 2
  funext l
  unfold hitL;rw [Bool.eq_iff_iff];simp only [decide_eq_true_eq,Bool.and_eq_true];omega
 rw [if_neg h]
 have:ls.find? (hitL u y)=none:=by rw [List.find?_eq_none];intro l _;unfold hitL;simp only [Bool.and_eq_true,decide_eq_true_eq];omega
 rw [this];rfl
theorem yG6 (vn mn ln:Nat) (vo mo lo:Option Addr) (vc mc lc:Nat) (ls:List Lk) (u:Nat) (y:Int) (w:World) (hl:w.ownsRow 0 73 3 (.slice lo ln lc) ln (lkL ls)) (hn:ln=ls.length) (hb:ln<=60000000) :
  Calls Tryz.prog 11 #[.agg #[.slice vo vn vc,.slice lo ln lc,.slice mo mn mc],nI (u:Nat),nI y] w fun e w'=>e=.returned (nI (alV ls u y))/\Ok w w':=by
 have HL:=hid hl;have HN:Hi (ln=ls.length/\ln<=60000000):=⟨hn,hb⟩;clear hl hn hb;go_enter Tryz.func11,Tryz.ntmps11
 go_upto_region 1 with (fail)
 obtain ⟨W,hW⟩:=qq (w.alloc (Obj.cells #[.slice vo vn vc,.slice lo ln lc,.slice mo mn mc] 43));obtain ⟨gT,hgT⟩:=qq (w.heap.size);rw [<-hW,<-hgT];have HK0:Hi (Ok w W):=by rw [hW];exact (Ok.refl w).alloc _
 have HRT:Hi (W.heap[gT]?=some (.cells #[.slice vo vn vc,.slice lo ln lc,.slice mo mn mc] 43 (0,0))):=by rw [hW,hgT];exact za3 _ _
 have HLW:Hi (W.ownsRow 0 73 3 (.slice lo ln lc) ln (lkL ls)):=za1 HL.o HK0.o;clear hW hgT HL;go_wp2_with fail;go_loopw [7] (fun t7 wr=>∃ k:Nat,t7=nI (k:Nat)/\k<=ln/\Hi (Ok W wr/\ls.find? (hitL u y)=(ls.drop k).find? (hitL u y))) (fun t7 _=>((ln:Int)-intOf t7).toNat)
 case atStart=>exact ⟨0,rfl,zL_ _,Ok.refl _,rfl⟩
 obtain ⟨k,rfl,hk,HR⟩:=hrel;obtain ⟨t0,t1,t2,_⟩:=za9 (Ok.row' HR.o.1 HRT.o);have lt:=za2 (Ok.row' HR.o.1 HRT.o);by_cases hkl:k<ln;rotate_left
 ·have hkl':¬(k:Int)<(ln:Int):=oM
  have HA:Hi (alV ls u y = -1):=by unfold Hi alV;rw [yH2,HR.o.2,List.drop_of_length_le (by have:=HN.o;omega)];rfl
  go_wp2_with fail;go_ret;exact ⟨by rw [HA.o];rfl,HK0.o.step HR.o.1⟩
 have hkl':(k:Int)<(ln:Int):=za5 hkl;have kw:IntKind.i64.wrap ((k:Int)+1)=((k+1:Nat):Int):=zb3 (by have:=HN.o;omega);obtain ⟨l,hlk⟩:∃ l,ls[k]?=some l:=⟨_,gG_ (by have:=HN.o;omega)⟩
 have HNX:Hi (ls.find? (hitL u y)=if hitL u y l=true then some l else (ls.drop (k+1)).find? (hitL u y)):=by
  unfold Hi;obtain ⟨h1,h2⟩:=List.getElem?_eq_some_iff.1 hlk;rw [HR.o.2,List.drop_eq_getElem_cons h1,h2,List.find?_cons]
  cases hitL u y l<;>rfl
 have ho:=za1 HLW.o HR.o.1;obtain ⟨lb,cap,e1,_⟩:=ho.form oM
 injection e1 with e1 e6 e7
 subst e1;clear e6 e7;obtain ⟨x0,x1,x2⟩:=zA3 hlk;have m0:=ho.cells (g:=lb) rfl _ _ x0;have m1:=ho.cells (g:=lb) rfl _ _ x1;have m2:=ho.cells (g:=lb) rfl _ _ x2;rw [zb7,Nat.zero_add] at m0 m1 m2;have llb:=(ho.lt lb rfl).2;clear ho x0 x1 x2 hlk;obtain ⟨l0,l1,l2⟩:=l;simp only at m0 m1 m2 HNX;by_cases h0:(l0:Int)=(u:Int);rotate_left
 ·have h0b:((l0:Int)==(u:Int))=false:=by rw [beq_eq_false_iff_ne];exact h0
  have HX:Hi (ls.find? (hitL u y)=(ls.drop (k+1)).find? (hitL u y)):=by unfold Hi;rw [HNX.o,if_neg (by unfold hitL;simp [h0])]
  clear h0;go_wp2_with fail;go_roundw
  case rel=>exact ⟨k+1,rfl,hkl,HR.o.1,HX.o⟩
  case measure=>simp only [intOf];omega
 have h0b:((l0:Int)==(u:Int))=true:=by rw [beq_iff_eq];exact h0
 by_cases h2:(l2:Int)=y
 ·have h2b:((l2:Int)==y)=true:=by rw [beq_iff_eq];exact h2
  have HA:Hi (alV ls u y=(l1:Int)):=by unfold Hi alV;rw [yH2,HNX.o,if_pos (by unfold hitL;simp [h0,h2])];rfl
  clear h0 h2;go_wp2_with fail;go_ret;exact ⟨by rw [HA.o];rfl,HK0.o.step HR.o.1⟩
 have h2b:((l2:Int)==y)=false:=by rw [beq_eq_false_iff_ne];exact h2
 have HX:Hi (ls.find? (hitL u y)=(ls.drop (k+1)).find? (hitL u y)):=by unfold Hi;rw [HNX.o,if_neg (by unfold hitL;simp [h2])]
 clear h0 h2;go_wp2_with fail;go_roundw
 case rel=>exact ⟨k+1,rfl,hkl,HR.o.1,HX.o⟩
 case measure=>simp only [intOf];omega
end
section
open Go.RowKit Go.Maps
theorem yF5 (v:Nat->Value) (c:Nat->Int) (tz:Option Addr) (tn tc:Nat) (r:Int) (N:Nat) (R:List Int×List Vx×List Lk) (pv:Value) (path:List Int) (w:World) (hv6:∀ i,i<6->∃ ao n c,v i=.slice ao n c) (hb:R.2.2.length<=60000000)
  (hp:SL w 1 pv path.length (ilL path)) (hpl:path.length<=4000000000000000000)
  (hS:∀ Y,Ok w Y->Calls Tryz.prog 10 #[.agg #[v 0,v 1,v 2,v 3,v 4,v 5],.agg #[nI (c 0),nI (c 1),nI (c 2),nI (c 3),nI (c 4),nI (c 5),.slice tz tn tc,nI (c 7),nI (c 8)]] Y fun e w'=>SpG Y r N R e w') :
  Calls Tryz.prog 5 #[.agg #[v 0,v 1,v 2,v 3,v 4,v 5],.agg #[nI (c 0),nI (c 1),nI (c 2),nI (c 3),nI (c 4),nI (c 5),.slice tz tn tc,nI (c 7),nI (c 8)],pv] w fun e w'=>e=.returned (.tuple #[nI (flV r R.2.2 path).1,nI (flV r R.2.2 path).2])/\Ok w w':=by
 obtain ⟨g0,n0,k0,g1,n1,k1,g2,n2,k2,g3,n3,k3,g4,n4,k4,g5,n5,k5,e0,e1,e2,e3,e4,e5⟩:=slices6 hv6;rw [e0,e1,e2,e3,e4,e5] at hS;rw [e0,e1,e2,e3,e4,e5];have HS:=hid hS;have HP:=hid hp;obtain ⟨_,_,po,pc,rfl,_⟩:=hp;obtain ⟨n,hn⟩:=qq (path.length);have HN:Hi (n=path.length/\n<=4000000000000000000/\R.2.2.length<=60000000):=⟨hn,by omega,hb⟩;rw [<-hn] at HP ⊢;clear hS e0 e1 e2 e3 e4 e5 hv6 hn hpl hb;go_enter Tryz.func5,Tryz.ntmps5;go_wp2_with fail;obtain ⟨W,hW⟩:=qq ((w.alloc (Obj.cells #[.slice g0 n0 k0,.slice g1 n1 k1,.slice g2 n2 k2,.slice g3 n3 k3,.slice g4 n4 k4,.slice g5 n5 k5] 30)).alloc (Obj.cells #[nI (c 0),nI (c 1),nI (c 2),nI (c 3),nI (c 4),nI (c 5),.slice tz tn tc,nI (c 7),nI (c 8)] 24));rw [<-hW];have HK0:Hi (Ok w W):=by rw [hW];exact ((Ok.refl w).alloc _).alloc _
 clear hW;refine (HS.o W HK0.o).mono ?_;rintro e w1 hv;by_cases hr:r=0;rotate_left
 ·have HR:Hi (r≠0):=hr
  obtain ⟨rfl,hk⟩:e=.returned (.tuple #[.agg #[sZ,sZ,sZ],nI r])/\Ok W w1:=hv.elim (fun h=>h.2) (fun h=>absurd h.1 HR.o);have hrb:(r != 0)=true:=bne_iff_ne.2 hr;have HK1:Hi (Ok w w1):=HK0.o.step hk;clear hv hk hr;go_wp2_with fail;(try simp only [Exit.inBlock,Exit.then]);refine bodyPost_ret (results_tmp2 rfl _ _ _) rfl ?_;have e9:flV r R.2.2 path=(0,r):=by unfold flV;rw [if_neg HR.o]
  rw [e9];exact ⟨rfl,HK1.o.alloc _⟩
 subst hr;obtain ⟨vv,lv,mv,rfl,hvs,hlv,hmv,hk⟩:PsIs W N R e w1:=hv.elim (fun h=>absurd rfl h.1) (fun h=>h.2);have HK1:Hi (Ok w w1):=HK0.o.step hk;have HLV:Hi (w1.ownsRow 0 73 3 lv R.2.2.length (lkL R.2.2)):=za7 hlv (zL_ _);obtain ⟨tl,_,hvv,_⟩:=hvs;obtain ⟨vo,vc,rfl⟩:=za0 hvv;obtain ⟨lo,lc,rfl⟩:=za0 hlv;obtain ⟨mo,mc,rfl⟩:=za0 hmv;obtain ⟨vn,hvn⟩:=qq (R.2.1.length);obtain ⟨ln,hln⟩:=qq (R.2.2.length);obtain ⟨mn,hmn⟩:=qq ((mgL N R.1).length);rw [<-hvn,<-hln,<-hmn];have HLN:Hi (ln=R.2.2.length):=hln;rw [<-hln] at HLV;clear hv hk hlv hvv hmv hvn hln hmn HS
 go_upto_region 4 with (fail)
 obtain ⟨X,hX⟩:=qq (w1.alloc (Obj.cells #[.slice vo vn vc,.slice lo ln lc,.slice mo mn mc] 43));obtain ⟨gT,hgT⟩:=qq (w1.heap.size);rw [<-hX,<-hgT];have HKX:Hi (Ok w1 X):=by rw [hX];exact (Ok.refl _).alloc _
 have HRT:Hi (X.heap[gT]?=some (.cells #[.slice vo vn vc,.slice lo ln lc,.slice mo mn mc] 43 (0,0))):=by rw [hX,hgT];exact za3 _ _
 have HKW:Hi (Ok w X):=HK1.o.step HKX.o;have HLX:Hi (X.ownsRow 0 73 3 (.slice lo ln lc) ln (lkL R.2.2)):=za1 HLV.o HKX.o;clear hX hgT HLV;go_wp2_with fail;go_loopw [10,11] (fun t i wr=>∃ (k u:Nat),i=nI (k:Nat)/\t=nI (u:Nat)/\k<=n/\Hi (goP R.2.2 0 path=goP R.2.2 u (path.drop k)/\Ok X wr)) (fun _ i _=>n-(intOf i).toNat)
 case atStart=>exact ⟨0,0,rfl,rfl,zL_ _,rfl,Ok.refl _⟩
 obtain ⟨k,u,rfl,rfl,hk,HR⟩:=hrel;by_cases hkl:k<n;rotate_left
 ·have hkl':¬(k:Int)<(n:Int):=oM
  have HG2:Hi (flV 0 R.2.2 path=((u:Int),0)):=by unfold Hi flV;rw [if_pos rfl,HR.o.1,List.drop_of_length_le (by have:=HN.o;omega)];rfl
  go_wp2_with fail;(try simp only [Exit.inBlock,Exit.then]);refine bodyPost_ret (results_tmp2 rfl _ _ _) rfl ?_;rw [HG2.o];exact ⟨rfl,HKW.o.step HR.o.2⟩
 have hkl':(k:Int)<(n:Int):=za5 hkl;have hkw:IntKind.i64.wrap ((k:Int)+1)=((k+1:Nat):Int):=by rw [IntKind.wrap_i64];have:=HN.o;omega
 obtain ⟨y,hy⟩:∃ y,path[k]?=some y:=⟨_,gG_ (by have:=HN.o;omega)⟩;have HY:Hi (path[k]?=some y):=hy;obtain ⟨pb,pf,rfl,hpb,hpc⟩:=(HP.o.below (HKW.o.step HR.o.2)).place oM;have y0:=hpc k (nI y) (zk6 hy);clear hpc hy
 have HCL:Hi (∀ Y,Ok wr Y->(Y.cell? (aD gT 0)=some (.slice vo vn vc)/\Y.cell? (aD gT 1)=some (.slice lo ln lc)/\Y.cell? (aD gT 2)=some (.slice mo mn mc)/\gT<Y.heap.size)/\Y.cell? ⟨pb,pf+k,none⟩=some (nI y)/\pb<Y.heap.size):=fun Y hY=>by have h5:=Ok.row' (HR.o.2.step hY) HRT.o;obtain ⟨b0,b1,b2,_⟩:=za9 h5;exact ⟨⟨b0,b1,b2,za2 h5⟩,hY.cell (p:=⟨pb,pf+k,none⟩) hpb y0,lL_ hpb hY.le⟩
 have HAL:Hi (∀ Y,Ok wr Y->Calls Tryz.prog 11 #[.agg #[.slice vo vn vc,.slice lo ln lc,.slice mo mn mc],nI (u:Nat),nI y] Y fun e w'=>e=.returned (nI (alV R.2.2 u y))/\Ok Y w'):=fun Y hY=>yG6 vn mn ln vo mo lo vc mc lc R.2.2 u y Y (za1 HLX.o (HR.o.2.step hY)) HLN.o (by have:=HN.o;have:=HLN.o;omega);obtain ⟨z,hz⟩:=qq (alV R.2.2 u y);have HZ:=hid hz;rw [<-hz] at HAL;clear hz y0 hpb
 go_upto_region 8 with (fail)
 have S0:Ok wr wr.drew:=Below.drew (Ok.refl wr);refine zd5 (fun Y=>Ok wr Y) 7 kR ?_;obtain ⟨D,hD⟩:=qq (wr.drew);rw [<-hD] at S0 ⊢;clear hD;refine tL 0 (.agg #[.slice vo vn vc,.slice lo ln lc,.slice mo mn mc]) S0 ?_ ?_
 ·intro w' s0;obtain ⟨⟨z0,z1,z2,z3⟩,z4,z5⟩:=HCL.o w' s0;clear s0;go_simp;try with_reducible rfl
 simp only [pu];refine tL 1 (nI (u:Nat)) S0 ?_ ?_
 ·intro w' s0;clear s0;go_simp;try with_reducible rfl
 simp only [pu];refine tL 2 (.slice (sA pb pf) n pc) S0 ?_ ?_
 ·intro w' s0;clear s0;go_simp;try with_reducible rfl
 simp only [pu];refine tL 3 (nI (k:Nat)) S0 ?_ ?_
 ·intro w' s0;clear s0;go_simp;try with_reducible rfl
 simp only [pu];refine tL 4 (.pointer (some ⟨pb,pf+k,none⟩)) S0 ?_ ?_
 ·intro w' s0;have u7:(0:Int)<=(k:Int):=oM;have u8:¬((n:Int)<=(k:Int)):=oM;have u9:(k:Int)<(n:Int):=oM;clear s0;go_simp;try with_reducible rfl
 simp only [pu];refine tL 5 (nI y) S0 ?_ ?_
 ·intro w' s0;obtain ⟨⟨z0,z1,z2,z3⟩,z4,z5⟩:=HCL.o w' s0;clear s0;go_simp;try with_reducible rfl
 simp only [pu];refine zb0 (i:=6) kR rfl (fun K hK=>?_);go_simp;refine (HAL.o D S0).mono ?_;rintro e D1 ⟨rfl,hk1⟩;have S1:Ok wr D1:=S0.step hk1;refine hK.out _ _ (fun _=>S1) ?_;clear hK K hk1 S0 HAL HCL
 try simp only [pu]
 refine zb0 (i:=7) kR rfl (fun K hK=>?_);go_simp;refine hK.out _ _ (fun h=>absurd rfl h) ?_;clear hK K;refine zd4 kR ?_ _;have HKD:Hi (Ok X D1):=HR.o.2.step S1;clear S1
 cases hg:goP R.2.2 u [y] with
 | some t =>
  have hzt:z=(t:Int):=by rw [HZ.o];unfold alV;rw [hg]
  have HG2:Hi (goP R.2.2 0 path=goP R.2.2 t (path.drop (k+1))):=by unfold Hi;rw [HR.o.1,zQ8 HY.o,hg];rfl
  subst hzt;have ht0:¬((t:Int)<0):=oM;clear hg;go_wp2_with fail;go_roundw
  case rel=>exact ⟨k+1,t,rfl,rfl,hkl,HG2.o,HKD.o⟩
  case measure=>simp only [intOf,Int.toNat_natCast];omega
 | none =>
  have hzt:z = -1:=by rw [HZ.o];unfold alV;rw [hg]
  have HG2:Hi (flV 0 R.2.2 path=(0,1)):=by unfold Hi flV;rw [if_pos rfl,HR.o.1,zQ8 HY.o,hg];rfl
  subst hzt;clear hg;go_wp2_with fail;(try simp only [Exit.inBlock,Exit.then]);refine bodyPost_ret (results_tmp2 rfl _ _ _) rfl ?_;rw [HG2.o];exact ⟨rfl,HKW.o.step HKD.o⟩
end
end Go.Proofs.YtihdgmiicfbbkaaGreatDoor
