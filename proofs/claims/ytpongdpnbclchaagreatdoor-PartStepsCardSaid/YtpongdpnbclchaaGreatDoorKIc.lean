import Derived.Test.YtpongdpnbclchaaGreatDoorKHc
set_option maxHeartbeats 8000000
set_option linter.all false
set_option maxRecDepth 100000
namespace Go.Proofs.YtpongdpnbclchaaGreatDoor
variable{B N cap gg k:Nat}{H U:Int}{a:Nat->Value}{c:Nat->Int}{es:List Ed}{mg ts:List Int}{w:World}
section
open Go.RowKit Go.Maps
theorem zQ5(k:Nat)(mg:List Int):mgL (k+1) mg=mgL k mg++if (k:Int)∈mg then [(k:Int)] else []:=by
 unfold mgL;rw[List.range_succ,List.map_append,List.filter_append]
 congr 1
 by_cases h:(k:Int)∈mg<;>simp[h]
theorem yD3(k:Nat)(mg:List Int):(mgL k mg).length<=k:=by unfold mgL;have:=List.length_filter_le (λn:Int=>decide (n∈mg)) ((List.range k).map λk:Nat=>(k:Int));simpa using this
theorem zU7(a:Nat->Value)(N cap:Nat)(H U:Int)(es:List Ed)(mg:List Int)(w:World)(h:SL w 1 (a 12) N (mgB N (DU cap H U es mg)))(hN:N<=1000) :
  Calls Tryz.prog 66 #[.agg #[a 0,a 1,a 2,a 3,a 4,a 5,a 6,a 7,a 8,a 9,a 10,a 11,a 12]] w λe w'=>∃mv,e=.returned mv/\w'.ownsRow w.heap.size 3 1 mv (mgL N mg).length (ilL (mgL N mg))/\Ok w w':=by
 have HM:=hid h;have HN:=hid hN;obtain⟨_,_,mo,mc,e12,_⟩:=h;have H12:=hid e12;rw[e12];clear e12 hN;go_enter Tryz.func66,Tryz.ntmps66;go_wp2_with fail;obtain⟨W,hW⟩:=qq (w.alloc (Obj.cells #[a 0,a 1,a 2,a 3,a 4,a 5,a 6,a 7,a 8,a 9,a 10,a 11,.slice mo N mc] 139));rw[<-hW];have HK:Hi (Ok w W):=by rw[hW];exact(Ok.refl w).alloc _
 clear hW;go_loopw [3,9] (λt3 t9 wr=>∃k:Nat,t9=nI (k:Nat)/\k<=N/\Hi (Ok W wr/\wr.ownsRow W.heap.size 3 1 t3 (mgL k mg).length (ilL (mgL k mg)))) (λ_ t9 _=>((N:Int)-intOf t9).toNat)
 case atStart=>exact⟨0,rfl,zL_ _,Ok.refl _,World.ownsRow_nil _ _ _ _⟩
 obtain⟨k,rfl,hk,HR⟩:=hrel;by_cases hkl:k<N
 ·obtain⟨b,o,c,e1,e2,e3⟩:=HM.o.at dC hkl
  rw[H12.o]at e1
  injection e1 with e4 e5 e6
  subst e4 e6;clear e5;have r0:wr.cell? ⟨b,o+k,none⟩=some (.bool (decide ((k:Int)∈mg))):=(HK.o.step HR.o.1).cell (p:=⟨b,o+k,none⟩) e2 (e3 k _ (by unfold mgB DU;rw[List.getElem?_map,List.getElem?_range hkl];rfl));have lb:b<wr.heap.size:=lL_ e2 (HK.o.step HR.o.1).le;have hkI:(k:Int)<(N:Int):=za5 hkl;have kw:IntKind.i64.wrap ((k:Int)+1)=((k+1:Nat):Int):=zb3 (by have:=HN.o;omega);clear e2 e3;by_cases hm:(k:Int)∈mg
  ·rw[decide_eq_true hm]at r0
   have HX:Hi (mgL (k+1) mg=mgL k mg++[(k:Int)]):=by unfold Hi;rw[zQ5,if_pos hm]
   clear hm
   go_wp2_with (first|(at_builtin;refine ze4 rfl _ _ 25 3 1 8 _ rfl Tryz.underlying25 wb1 (by rfl) (by decide) (by decide) W.heap.size _ (mgL k mg).length (ilL (mgL k mg)) (by rfl) (World.ownsRow.alloc HR.o.2 _) (.slice (sA wr.heap.size 0) 1 1) 1 [nI (k:Nat)] (by rfl) (SL.one wr 3 [nI (k:Nat)] rfl (by simp[Value.oneCell'])) (by have h1:=yD3 k mg;have h2:=HN.o;omega) (by have h1:=HR.o.1.le;simp;omega) ?_;intro v9 w9 k1 k2;have HO9:Hi (w9.ownsRow W.heap.size 3 1 v9 (mgL (k+1) mg).length (ilL (mgL (k+1) mg))):=(by rw[HX.o,List.length_append,List.length_singleton,zJ7];exact k1);have HK9:Hi (Ok W w9):=(HR.o.1.alloc _).grown k2 (λb e=>(HR.o.2.lt b e).1);clear k1 k2)|fail)
   exact⟨⟨k+1,rfl,hkl,HK9.o,HO9.o⟩,by show((N:Int)-((k:Int)+1)).toNat<((N:Int)-(k:Int)).toNat;omega⟩
  rw[decide_eq_false hm]at r0;have HX:Hi (mgL (k+1) mg=mgL k mg):=by unfold Hi;rw[zQ5,if_neg hm,List.append_nil]
  clear hm;go_wp2_with fail;exact⟨⟨k+1,rfl,hkl,HR.o.1,by rw[HX.o];exact HR.o.2⟩,by show((N:Int)-((k:Int)+1)).toNat<((N:Int)-(k:Int)).toNat;omega⟩
 have hkI:¬(k:Int)<(N:Int):=zb2 hkl;have HKE:Hi (k=N):=by unfold Hi;omega
 go_wp2_with fail;go_ret;refine⟨_,rfl,?_,HK.o.step HR.o.1⟩;have h1:=HR.o.2;rw[HKE.o]at h1;exact za7 h1 HK.o.le
end
section
open Go.RowKit Go.Maps
theorem PO.ok{w':World}(h:PO w B a N gg H U cap es mg)(hk:Ok w w'):PO w' B a N gg H U cap es mg:=by obtain⟨sv,h1,h2⟩:=h.steps;obtain⟨ov,h3,h4⟩:=h.outs;exact⟨h.nodes,h.sls,h.exi,za1 h.edges hk,h.capv,⟨sv,za1 h1 hk,λi e he=>by obtain⟨v,e1,e2⟩:=h2 i e he;exact⟨v,e1,e2.ok hk⟩⟩,⟨ov,za1 h3 hk,λn hn=>by obtain⟨v,e1,e2⟩:=h4 n hn;exact⟨v,e1,za1 e2 hk⟩⟩,h.mrg.1,za1 h.mrg.2 hk⟩
theorem PO.mark(h:PO w B a N gg H U cap es mg){n:Nat}(hn:n<N):PO (w.setCell (aD gg n) (.bool true)) B a N gg H U cap es ((n:Int)::mg):=by
 obtain⟨sv,h1,h2⟩:=h.steps;obtain⟨ov,h3,h4⟩:=h.outs;obtain⟨cg,fg,hgg⟩:=zf9 h.mrg.2 gg rfl;refine⟨h.nodes,h.sls,h.exi,zc7 h.edges (zb6 h.edges hgg dC) _,h.capv,⟨sv,zc7 h1 (zb6 h1 hgg dC) _,λi e he=>?_⟩,⟨ov,zc7 h3 (zb6 h3 hgg dC) _,λm hm=>?_⟩,h.mrg.1,?_⟩
 ·obtain⟨v,e1,e2⟩:=h2 i e he
  refine⟨v,e1,e2.far λb hb ⟨c,f,hr⟩=>Below.heap_setCell _ _ _ _ (λe9=>?_)⟩;have e8:b=gg:=e9;rw[e8,hgg]at hr
  injection hr with hr
  injection hr with _ hr
  exact absurd hr dC
 ·obtain⟨v,e1,e2⟩:=h4 m hm
  exact⟨v,e1,zc7 e2 (zb6 e2 hgg dC) _⟩
 have e:mgB N (DU cap H U es ((n:Int)::mg))=(mgB N (DU cap H U es mg)).set n (.bool true):=by
  have hl:∀m,(mgB N (DU cap H U es m)).length=N:=λm=>by unfold mgB;simp
  apply List.ext_getElem?;intro i;rw[List.getElem?_set];by_cases hi:i<N
  ·by_cases c:n=i
   ·subst c
    rw[if_pos rfl,if_pos (by rw[hl];exact hi)];unfold mgB DU;rw[List.getElem?_map,List.getElem?_range hi];simp
   rw[if_neg c];unfold mgB DU;rw[List.getElem?_map,List.getElem?_map,List.getElem?_range hi];have:¬(i:Int)=(n:Int):=oM;simp[this]
  rw[List.getElem?_eq_none (by rw[hl];omega)]
  split
  ·rw[if_neg (by rw[hl];omega)]
  rw[List.getElem?_eq_none (by rw[hl];omega)]
 rw[e];exact zA1 h.mrg.2 _ oM
theorem PO.ones(h:PO w B a N gg H U cap es mg):(#[a 0,a 1,a 2,a 3,a 4,a 5,a 6,a 7,a 8,a 9,a 10,a 11,a 12]:Array Value).all (·.oneCell')=true:=by obtain⟨sv,h1,h2⟩:=h.steps;obtain⟨ov,h3,h4⟩:=h.outs;obtain⟨_,_,_,e0⟩:=h.sls 0 oM;obtain⟨_,_,_,e1⟩:=h.sls 1 oM;obtain⟨_,_,_,e2⟩:=h.sls 2 oM;obtain⟨_,_,_,e3⟩:=h.sls 3 oM;obtain⟨_,_,_,e4⟩:=h.sls 4 oM;obtain⟨_,_,_,e5⟩:=h.sls 5 oM;obtain⟨_,e7⟩:=h.exi;obtain⟨_,_,e8⟩:=za0 h.edges;obtain⟨_,_,e10⟩:=za0 h1;obtain⟨_,_,e11⟩:=za0 h3;rw[e0,e1,e2,e3,e4,e5,e7,e8,e10,e11,h.nodes,h.capv,h.mrg.1];simp[Value.oneCell']
theorem wr0{g:Nat}{a0 a1 a2:Value}{t:TypeId}(h:w.heap[g]?=some (.cells #[a0,a1,a2] t (0,0))):w.cell? (aD g 0)=some a0/\w.cell? (aD g 1)=some a1/\w.cell? (aD g 2)=some a2/\w.frozen? (aD g 0)=false/\w.frozen? (aD g 1)=false/\w.frozen? (aD g 2)=false/\g<w.heap.size:=by refine⟨?_,?_,?_,frozen_of_row _ _ _ _ _ h,frozen_of_row _ _ _ _ _ h,frozen_of_row _ _ _ _ _ h,za2 h⟩<;>simp[World.cell?,h]
def wn8(w:World)(N:Nat)(R:List Int×List Vx×List Lk)(e:Ending)(w':World):Prop:=∃(vv lv mv:Value),e=.returned (.agg #[vv,lv,mv])/\DV w' w.heap.size vv R.2.1/\w'.ownsRow w.heap.size 144 3 lv R.2.2.length (lkL R.2.2)/\w'.ownsRow w.heap.size 3 1 mv (mgL N R.1).length (ilL (mgL N R.1))/\Ok w w'
theorem DV.base{B':Nat}{vv:Value}{vs:List Vx}(h:DV w B vv vs)(hB:B'<=B):DV w B' vv vs:=by obtain⟨tl,h1,h2,h3⟩:=h;exact⟨tl,h1,za7 h2 hB,λi v x hv hx=>(h3 i v x hv hx).base hB⟩
structure SI(W:World)(gP B:Nat)(b:Nat->Value)(N gg:Nat)(H U:Int)(cap:Nat)(es:List Ed)(R:List Int×List Vx×List Lk)(gk:Nat)(mg:List Int)(wr:World):Prop where
 ok:Ok W wr
 row:wr.heap[gP]?=some (.cells #[b 0,b 1,b 2,b 3,b 4,b 5,b 6,b 7,b 8,b 9,b 10,b 11,b 12] 139 (0,0))
 po:PO wr B b N gg H U cap es mg
 run:wc7 cap H U es (N*cap+1) gk mg=some R
 bg:W.heap.size<=gg
theorem yc8(a:Nat->Value)(N cap:Nat)(H U c3 c4 c5 c7 c8':Int)(tz:Option Addr)(tn tc:Nat)(es:List Ed)(R:List Int×List Vx×List Lk)(w:World)(hn:a 6=nI (N:Nat))(hs:∀ i,i<6->∃ ao n c,a i=.slice ao n c)(hx:∃ x,a 7=nI x)(he:w.ownsRow 0 59 6 (a 8) es.length (edL es))(hb:N<=1000/\cap<=10/\es.length<=5000)(hfr:∀ e∈es,0<=e.from'/\e.from'<(N:Int))(hwi:FG N es)(hc:0<cap)(hU:0<=U/\U<=1000)(hR:wc7 cap H U es (N*cap+1) (N+1) []=some R)(hT:Lib.TabBelow Tryz.prog w.heap.size w "internal/strconv.uint64pow10" .u64 Lib.pow10Tab) :
  Calls Tryz.prog 36 #[.agg #[a 0,a 1,a 2,a 3,a 4,a 5,a 6,a 7,a 8],.agg #[nI H,nI U,nI (cap:Nat),nI c3,nI c4,nI c5,.slice tz tn tc,nI c7,nI c8']] w λe w'=>wn8 w N R e w':=by
 have HPB:Hi (∀mg,PB N (DU cap H U es mg)):=λmg=>⟨hwi,hfr,hb,hc,hU⟩;have HRN:=hid hR;have HB:=hid hb;have HTB:=hid hT;have HNW:Hi (∀Y,Ok w Y->Calls Tryz.prog 64 #[.agg #[a 0,a 1,a 2,a 3,a 4,a 5,a 6,a 7,a 8],.agg #[nI H,nI U,nI (cap:Nat),nI c3,nI c4,nI c5,.slice tz tn tc,nI c7,nI c8']] Y λe w'=>wp7 Y N H U cap es e w'):=λY hY=>zK3 a N cap H U c3 c4 c5 c7 c8' tz tn tc es Y hn hs hx (za1 he hY) ⟨hb.1,hb.2.2⟩ hfr;have HMI:Hi (FG N es/\0<cap/\U<=1000):=⟨hwi,hc,hU.2⟩;clear hn hs hx he hb hfr hwi hc hU hR hT;go_enter Tryz.func36,Tryz.ntmps36;go_wp2_with fail;obtain⟨W0,hW0⟩:=qq (((w.alloc (Obj.cells #[a 0,a 1,a 2,a 3,a 4,a 5,a 6,a 7,a 8] 53)).alloc (Obj.cells #[nI H,nI U,nI (cap:Nat),nI c3,nI c4,nI c5,.slice tz tn tc,nI c7,nI c8'] 24)).alloc (Obj.cells #[sZ,sZ,sZ] 67));obtain⟨gR,hgR⟩:=qq (w.heap.size+1+1);rw[<-hW0,<-hgR];have HK0:Hi (Ok w W0):=by rw[hW0];exact(((Ok.refl w).alloc _).alloc _).alloc _
 have HRR0:Hi (W0.heap[gR]?=some (.cells #[sZ,sZ,sZ] 67 (0,0))):=by rw[hW0,hgR];exact jj
 have HG:Hi (w.heap.size<=gR):=by unfold Hi;omega
 clear hW0 hgR;refine(HNW.o W0 HK0.o).mono ?_;rintro e w1 hv;unfold wp7 at hv;obtain⟨b,gg,rfl,hpo,hk1⟩:=hv;have HPO:=hid hpo;have HK1:=hid hk1;have HON:=hid hpo.ones;clear hpo hk1
 go_wp2_with (first|(refine za8 rfl 139 _ _ rfl w1.heap.size 139 #[sZ,sZ,sZ,sZ,sZ,sZ,nI 0,nI 0,sZ,nI 0,sZ,sZ,sZ] #[b 0,b 1,b 2,b 3,b 4,b 5,b 6,b 7,b 8,b 9,b 10,b 11,b 12] (by rfl) (by rfl) (za3 _ _) wk9 rfl HON.o ?_)|fail)
 obtain⟨W,hW⟩:=qq ((w1.alloc (Obj.cells #[sZ,sZ,sZ,sZ,sZ,sZ,nI 0,nI 0,sZ,nI 0,sZ,sZ,sZ] 139)).setRow w1.heap.size #[b 0,b 1,b 2,b 3,b 4,b 5,b 6,b 7,b 8,b 9,b 10,b 11,b 12]);obtain⟨gP,hgP⟩:=qq (w1.heap.size);rw[<-hW,<-hgP];have HKW:Hi (Ok w1 W):=by rw[hW];exact zd0 ((Ok.refl w1).alloc _) (Nat.le_refl _) _
 have HK:=hid ((HK0.o.step HK1.o).step HKW.o);have HSI:Hi (SI W0 gP W0.heap.size b N gg H U cap es R (N+1) [] W):=⟨HK1.o.step HKW.o,by rw[hW,hgP];exact setRow_heap _ _ _ _ _ _ (za3 _ _),HPO.o.ok HKW.o,HRN.o,(HPO.o.mrg.2.lt gg rfl).1⟩;have HGP:Hi (W0.heap.size<=gP/\gR<W0.heap.size):=by have h1:=HK1.o.le;have h2:=za2 HRR0.o;unfold Hi;omega
 clear hW hgP HNW
 go_frame
 go_loopg [] (N+1) (λgk wr=>∃mg,Hi (SI W0 gP W0.heap.size b N gg H U cap es R gk mg wr))
 case atStart=>exact⟨[],HSI⟩
 obtain⟨mg,HS⟩:=hrel
 obtain⟨g,hg⟩:∃g,gk=g+1:=by
  cases gk with
  | zero=>have h1:=HS.o.run;unfold wc7 at h1;cases h1
  | succ g=>exact⟨g,rfl⟩
 have HGK:Hi (gk=g+1):=hg;clear hg HSI;obtain⟨p0,p1,p2,p3,p4,p5,p6,p7,p8,p9,p10,p11,p12,lgp⟩:=wc8 HS.o.row;have HAT:Hi (Calls Tryz.prog 65 #[.agg #[b 0,b 1,b 2,b 3,b 4,b 5,b 6,b 7,b 8,b 9,b 10,b 11,b 12]] wr λe w'=>wm0 wr (DU cap H U es mg) (N*cap+1) e w'):=zK1 b N (DU cap H U es mg) (N*cap+1) wr (HS.o.po.pi HMI.o.2.2) (HPB.o mg) (Nat.lt_succ_self _) (λw' hw'=>HTB.o w' (Below.trans (HK0.o.step HS.o.ok) (hw'.mono (HK0.o.step HS.o.ok).le)));go_wp2_with fail;refine HAT.o.mono ?_;rintro e w2 hv;unfold wm0 at hv
 cases hpf:(DU cap H U es mg).find (N*cap+1) with
 | inl n =>
  rw[hpf]at hv;obtain⟨rfl,hk2⟩:=hv;obtain⟨h3,h4,h5⟩:=zz5 (p:=DU cap H U es mg) HMI.o.2.1 HMI.o.1 hpf;obtain⟨k,hk⟩:∃k:Nat,n=(k:Int):=⟨n.toNat,by omega⟩;subst hk;have HKN:Hi (k<N):=by unfold Hi;omega
  have HRU:Hi (wc7 cap H U es (N*cap+1) g ((k:Int)::mg)=some R):=by have h1:=HS.o.run;rw[HGK.o]at h1;unfold wc7 at h1;rw[hpf]at h1;exact h1
  have HK2:=hid hk2;have HP2:Hi _:=HS.o.po.ok hk2;have HR2:Hi _:=Ok.row' hk2 HS.o.row;clear h3 h4 h5 hk2 hpf p0 p1 p2 p3 p4 p5 p6 p7 p8 p9 p10 p11 p12 lgp HAT;obtain⟨p0,p1,p2,p3,p4,p5,p6,p7,p8,p9,p10,p11,p12,lgp⟩:=wc8 HR2.o;rw[HP2.o.mrg.1]at p12;obtain⟨cg,fg,hgg⟩:=zf9 HP2.o.mrg.2 gg rfl;have m0:w2.cell? (aD gg k)=some (.bool (decide ((k:Int)∈mg))):=by have h1:=HP2.o.mrg.2.cells (g:=gg) rfl k _ (show(mgB N (DU cap H U es mg))[k]?=some (.bool (decide ((k:Int)∈mg))) by unfold mgB DU;rw[List.getElem?_map,List.getElem?_range HKN.o];rfl);rw[zb7,Nat.zero_add]at h1;exact h1
  have m1:w2.frozen? (aD gg k)=false:=by
   rcases HP2.o.mrg.2.2 with ⟨e1,_⟩ | ⟨g',cp,cur,e1,_,hg9,_⟩
   ·cases e1
   injection e1 with e5 _ _
   injection e5 with e5
   injection e5 with e5
   rw[<-e5]at hg9;exact frozen_of_row _ _ _ _ _ hg9
  have lgg:gg<w2.heap.size:=(HP2.o.mrg.2.lt gg rfl).2;have hkI:(k:Int)<(N:Int):=by have:=HKN.o;omega
  have hkn:¬(k:Int)<0:=oM
  have HNE:Hi (gP≠gg):=by
   unfold Hi;intro e9;have h1:=HR2.o;rw[e9,hgg]at h1
   injection h1 with h1
   injection h1 with _ h1
   exact absurd h1 dC
  clear hgg;go_wp2_with fail
  go_roundg g
  case measure=>have:=HGK.o;omega
  case rel=>exact⟨(k:Int)::mg,⟨((HS.o.ok.step HK2.o).set HS.o.bg _).alloc _,Ok.row' ((Ok.refl _).alloc _) (zk3 HR2.o HNE.o _),(HP2.o.mark HKN.o).ok ((Ok.refl _).alloc _),HRU.o,HS.o.bg⟩⟩
 | inr r =>
  rw[hpf]at hv;obtain⟨vv,lv,B,rfl,hvs,hls,hB,hk2⟩:=hv;have HRU:Hi (R=(mg,r.1,r.2)):=by have h1:=HS.o.run;rw[HGK.o]at h1;unfold wc7 at h1;rw[hpf]at h1;exact(Option.some.inj h1).symm
  have HK2:=hid hk2;have HP2:Hi _:=HS.o.po.ok hk2;have HR2:Hi _:=Ok.row' hk2 HS.o.row;have HVS:Hi (DV w2 B vv r.1/\w2.ownsRow B 144 3 lv r.2.length (lkL r.2)/\wr.heap.size<=B):=⟨hvs,hls,hB⟩;obtain⟨tl,z1,z2,z3⟩:=hvs;obtain⟨vo,vc,rfl⟩:=za0 z2;obtain⟨lo,lc,rfl⟩:=za0 hls;clear hk2 hpf hls hB z1 z2 z3 p0 p1 p2 p3 p4 p5 p6 p7 p8 p9 p10 p11 p12 lgp HAT;obtain⟨p0,p1,p2,p3,p4,p5,p6,p7,p8,p9,p10,p11,p12,lgp⟩:=wc8 HR2.o;have HMR:Hi (∀Y,Ok w2 Y->Calls Tryz.prog 66 #[.agg #[b 0,b 1,b 2,b 3,b 4,b 5,b 6,b 7,b 8,b 9,b 10,b 11,b 12]] Y λe w'=>∃mv,e=.returned mv/\w'.ownsRow Y.heap.size 3 1 mv (mgL N mg).length (ilL (mgL N mg))/\Ok Y w'):=λY hY=>zU7 b N cap H U es mg Y ((HP2.o.ok hY).pi HMI.o.2.2).mrg HB.o.1;go_wp2_with fail;refine(HMR.o _ ((Ok.refl w2).alloc _)).mono ?_;rintro e w3 ⟨mv,rfl,hm,hk3⟩;obtain⟨gQ,hgQ⟩:=qq (w2.heap.size);rw[<-hgQ];have HMV:Hi (w3.ownsRow (gQ+1) 3 1 mv (mgL N mg).length (ilL (mgL N mg))):=za7 hm (by rw[hgQ];exact za2 (za3 _ _));have HRQ:Hi (w3.heap[gQ]?=some (.cells #[Value.slice vo r.fst.length vc,Value.slice lo r.snd.length lc,sZ] 67 (0,0))):=by rw[hgQ];exact Ok.row' hk3 (za3 _ _)
  have HRR3:Hi _:=Ok.row' ((HS.o.ok.step HK2.o).step (((Ok.refl w2).alloc _).step hk3)) HRR0.o;have HK3:Hi (Ok w2 w3):=((Ok.refl w2).alloc _).step hk3;obtain⟨mo,mc,rfl⟩:=za0 hm;obtain⟨q0,q1,q2,q3,q4,q5,lgq⟩:=wr0 HRQ.o;obtain⟨s0,s1,s2,s3,s4,s5,lgr⟩:=wr0 HRR3.o;have hqr:¬gQ=gR:=by have h1:=HGP.o.2;have h2:=HS.o.ok.le;have h3:=HK2.o.le;omega
  have hrq:¬gR=gQ:=λe=>hqr e.symm;have HQ:Hi (w.heap.size<=gQ/\W0.heap.size<=gQ):=by have h1:=HS.o.ok.le;have h3:=HK2.o.le;have h4:=HK0.o.le;unfold Hi;omega
  have HQE:Hi (gQ=w2.heap.size):=hgQ;clear hgQ hm hk3;go_wp2_with fail;refine bodyPost_ret (results_cell_row rfl _ _ gR 67 #[_,_,_] (0,0) _ rfl (zd9 (zk3 HRR3.o hrq _) _ _ _) Tryz.underlying67 rfl wg6) rfl ?_;have hb:=HQ.o;have hB:=HVS.o.2.2;have hE:=HK0.o.le;have hF:=HS.o.ok.le;have hG:=HGP.o;have hlr:=HG.o;have hsame:∀x,x≠gQ->x≠gR->((((w3.setCell (aD gQ 2) (Value.slice mo (mgL N mg).length mc)).setCell (aD gR 0) (Value.slice vo r.fst.length vc)).setCell (aD gR 1) (Value.slice lo r.snd.length lc)).setCell (aD gR 2) (Value.slice mo (mgL N mg).length mc)).heap[x]?=w3.heap[x]?:=λx h1 h2=>by rw[Below.heap_setCell _ _ _ _ h2,Below.heap_setCell _ _ _ _ h2,Below.heap_setCell _ _ _ _ h2,Below.heap_setCell _ _ _ _ h1]
  have hnq:∀x,x<w2.heap.size->x≠gQ:=λx hx=>by have:=HQE.o;omega
  have hR1:R.1=mg/\R.2.1=r.1/\R.2.2=r.2:=by rw[HRU.o];exact⟨rfl,rfl,rfl⟩
  unfold wn8;rw[hR1.1,hR1.2.1,hR1.2.2];refine⟨_,_,_,rfl,?_,?_,?_,?_⟩
  ·exact DV.base (HVS.o.1.far λx h1 h2=>(hsame x (hnq x h2) oM).trans (HK3.o.block x h2)) oM
  ·refine za7 (zb4 (za1 HVS.o.2.1 HK3.o) λx hx=>hsame x (hnq x (HVS.o.2.1.lt x hx).2) (by have:=(HVS.o.2.1.lt x hx).1;omega)) oM
  ·exact za7 (zb4 HMV.o λx hx=>hsame x (by have:=(HMV.o.lt x hx).1;omega) (by have:=(HMV.o.lt x hx).1;omega)) oM
  exact((((((HK0.o.step HS.o.ok).step HK2.o).step HK3.o).set hb.1 _).set hlr _).set hlr _).set hlr _
end
section
open Go.RowKit Go.Maps
def CU:List Int->Bool
 | a::b::l=>decide (a<b)&&CU (b::l)
 | _=>true
theorem zh2(v l m:Int)(w:World):Calls Tryz.prog 125 #[nI v,nI l,nI m] w λe w'=>e=.returned (.bool (decide (l<=v)&&decide (v<=m)))/\Ok w w':=by
 go_enter Tryz.func125,Tryz.ntmps125;go_wp2_with fail
 all_goals go_ret
 ·exact⟨by simp[*],Ok.refl _⟩
 have h9:¬l<=v:=oM;exact⟨by simp[h9],Ok.refl _⟩
theorem yc9(c:Nat->Int)(tz:Option Addr)(tn tc:Nat)(w:World):Calls Tryz.prog 124 #[.agg #[nI (c 0),nI (c 1),nI (c 2),nI (c 3),nI (c 4),nI (c 5),.slice tz tn tc,nI (c 7),nI (c 8)]] w λe w'=>e=.returned (.bool (decide (0<=c 0)&&decide (c 0<=3)))/\Ok w w':=by go_enter Tryz.func124,Tryz.ntmps124;go_wp2_with fail;refine mq (zh2 _ _ _ _) λw1 hk=>?_;go_wp2_with fail;go_ret;exact⟨rfl,((Ok.refl w).alloc _).step hk⟩
theorem yd0(c:Nat->Int)(tz:Option Addr)(tn tc:Nat)(w:World):Calls Tryz.prog 126 #[.agg #[nI (c 0),nI (c 1),nI (c 2),nI (c 3),nI (c 4),nI (c 5),.slice tz tn tc,nI (c 7),nI (c 8)]] w λe w'=>e=.returned (.bool (decide (0<=c 1)&&decide (c 1<=3)))/\Ok w w':=by go_enter Tryz.func126,Tryz.ntmps126;go_wp2_with fail;refine mq (zh2 _ _ _ _) λw1 hk=>?_;go_wp2_with fail;go_ret;exact⟨rfl,((Ok.refl w).alloc _).step hk⟩
theorem yd1(c:Nat->Int)(tz:Option Addr)(tn tc:Nat)(w:World):Calls Tryz.prog 127 #[.agg #[nI (c 0),nI (c 1),nI (c 2),nI (c 3),nI (c 4),nI (c 5),.slice tz tn tc,nI (c 7),nI (c 8)]] w λe w'=>e=.returned (.bool (decide (1<=c 2)&&decide (c 2<=6)))/\Ok w w':=by go_enter Tryz.func127,Tryz.ntmps127;go_wp2_with fail;refine mq (zh2 _ _ _ _) λw1 hk=>?_;go_wp2_with fail;go_ret;exact⟨rfl,((Ok.refl w).alloc _).step hk⟩
theorem yd2(c:Nat->Int)(tz:Option Addr)(tn tc:Nat)(w:World):Calls Tryz.prog 128 #[.agg #[nI (c 0),nI (c 1),nI (c 2),nI (c 3),nI (c 4),nI (c 5),.slice tz tn tc,nI (c 7),nI (c 8)]] w λe w'=>e=.returned (.bool (decide (0<=c 3)&&decide (c 3<=6)))/\Ok w w':=by go_enter Tryz.func128,Tryz.ntmps128;go_wp2_with fail;refine mq (zh2 _ _ _ _) λw1 hk=>?_;go_wp2_with fail;go_ret;exact⟨rfl,((Ok.refl w).alloc _).step hk⟩
theorem yd3(c:Nat->Int)(tz:Option Addr)(tn tc:Nat)(w:World):Calls Tryz.prog 129 #[.agg #[nI (c 0),nI (c 1),nI (c 2),nI (c 3),nI (c 4),nI (c 5),.slice tz tn tc,nI (c 7),nI (c 8)]] w λe w'=>e=.returned (.bool (decide (0<=c 4)&&decide (c 4<=3)))/\Ok w w':=by go_enter Tryz.func129,Tryz.ntmps129;go_wp2_with fail;refine mq (zh2 _ _ _ _) λw1 hk=>?_;go_wp2_with fail;go_ret;exact⟨rfl,((Ok.refl w).alloc _).step hk⟩
theorem yd4(c:Nat->Int)(tz:Option Addr)(tn tc:Nat)(w:World):Calls Tryz.prog 130 #[.agg #[nI (c 0),nI (c 1),nI (c 2),nI (c 3),nI (c 4),nI (c 5),.slice tz tn tc,nI (c 7),nI (c 8)]] w λe w'=>e=.returned (.bool (decide (0<=c 5)&&decide (c 5<=3)))/\Ok w w':=by go_enter Tryz.func130,Tryz.ntmps130;go_wp2_with fail;refine mq (zh2 _ _ _ _) λw1 hk=>?_;go_wp2_with fail;go_ret;exact⟨rfl,((Ok.refl w).alloc _).step hk⟩
theorem yd5(c:Nat->Int)(tz:Option Addr)(tn tc:Nat)(w:World):Calls Tryz.prog 133 #[.agg #[nI (c 0),nI (c 1),nI (c 2),nI (c 3),nI (c 4),nI (c 5),.slice tz tn tc,nI (c 7),nI (c 8)]] w λe w'=>e=.returned (.bool (decide (0<=c 7)&&decide (c 7<=5000)))/\Ok w w':=by go_enter Tryz.func133,Tryz.ntmps133;go_wp2_with fail;refine mq (zh2 _ _ _ _) λw1 hk=>?_;go_wp2_with fail;go_ret;exact⟨rfl,((Ok.refl w).alloc _).step hk⟩
theorem yd6(c:Nat->Int)(tz:Option Addr)(tn tc:Nat)(w:World):Calls Tryz.prog 134 #[.agg #[nI (c 0),nI (c 1),nI (c 2),nI (c 3),nI (c 4),nI (c 5),.slice tz tn tc,nI (c 7),nI (c 8)]] w λe w'=>e=.returned (.bool (decide (0<=c 8)&&decide (c 8<=4)))/\Ok w w':=by go_enter Tryz.func134,Tryz.ntmps134;go_wp2_with fail;refine mq (zh2 _ _ _ _) λw1 hk=>?_;go_wp2_with fail;go_ret;exact⟨rfl,((Ok.refl w).alloc _).step hk⟩
theorem zt7{a b:Int}(ha:ts[k]?=some a)(hb:ts[k+1]?=some b):CU (ts.drop k)=(decide (a<b)&&CU (ts.drop (k+1))):=by obtain⟨h1,h2⟩:=List.getElem?_eq_some_iff.1 ha;obtain⟨h3,h4⟩:=List.getElem?_eq_some_iff.1 hb;rw[List.drop_eq_getElem_cons h1,List.drop_eq_getElem_cons h3,h2,h4];rfl
theorem zU8(h:ts.length<=k+1):CU (ts.drop k)=true:=by
 have h1:(ts.drop k).length<=1:=by rw[List.length_drop];omega
 match hd:ts.drop k,h1 with
 | [],_=>rfl
 | [a],_=>rfl
theorem yo7(ts:List Int)(tz:Option Addr)(tc:Nat)(w:World)(h:SL w 1 (.slice tz ts.length tc) ts.length (ilL ts))(hn:ts.length<=6):Calls Tryz.prog 132 #[.slice tz ts.length tc] w λe w'=>e=.returned (.bool (CU ts))/\Ok w w':=by
 have HM:=hid h;have HL:=hid hn;obtain⟨N,hN⟩:=qq (ts.length);have HN:Hi (N=ts.length):=hN;rw[<-hN];clear h hn hN;go_enter Tryz.func132,Tryz.ntmps132;go_wp2_with fail;go_loopw [3] (λt3 wr=>∃k:Nat,t3=nI ((k+1:Nat):Int)/\Hi (Ok w wr/\CU ts=CU (ts.drop k)/\(k=0\/k<N))) (λt3 _=>((N:Int)-intOf t3).toNat)
 case atStart=>exact⟨0,rfl,Ok.refl _,rfl,Or.inl rfl⟩
 obtain⟨k,rfl,HR⟩:=hrel;obtain⟨i,hi⟩:=qq (k+1);have HI:Hi (i=k+1):=hi;rw[<-hi];clear hi;by_cases hkl:i<N
 ·obtain⟨b,o,c,e1,e2,e3⟩:=HM.o.at (k:=i) (by decide) (by rw[<-HN.o];exact hkl)
  injection e1 with e4 e5 e6
  subst e4 e6;clear e5;obtain⟨x,hx⟩:∃x,ts[k]?=some x:=⟨_,gG_ (by have:=HI.o;have:=HN.o;omega)⟩;obtain⟨y,hy⟩:∃y,ts[k+1]?=some y:=⟨_,gG_ (by have:=HI.o;have:=HN.o;omega)⟩;have r0:wr.cell? ⟨b,o+i,none⟩=some (nI y):=HR.o.1.cell (p:=⟨b,o+i,none⟩) e2 (e3 i _ (by rw[HI.o];unfold ilL;rw[List.getElem?_map,hy];rfl));have r1:wr.cell? ⟨b,o+k,none⟩=some (nI x):=HR.o.1.cell (p:=⟨b,o+k,none⟩) e2 (e3 k _ (by unfold ilL;rw[List.getElem?_map,hx];rfl));have HXY:Hi (ts[k]?=some x/\ts[k+1]?=some y):=⟨hx,hy⟩;have lb:b<wr.heap.size:=lL_ e2 HR.o.1.le;have hkI:(i:Int)<(N:Int):=za5 hkl;have kw:IntKind.i64.wrap ((i:Int)+1)=((i+1:Nat):Int):=zb3 (by have:=HN.o;have:=HL.o;omega);have km:IntKind.i64.wrap ((i:Int)-1)=((k:Nat):Int):=zd3 (by have h1:=HI.o;omega) (by have:=HN.o;have:=HL.o;have:=HI.o;omega);have hkk:(k:Int)<(N:Int):=by have h1:=HI.o;omega
  clear e2 e3 hx hy;by_cases hxy:y<=x
  ·have HD:Hi (CU ts=false):=by unfold Hi;rw[HR.o.2.1,zt7 HXY.o.1 HXY.o.2,decide_eq_false (by omega),Bool.false_and]
   go_upto_region 4 with (fail)
   go_quiet (fail);go_wp2_with fail;go_ret;exact⟨by show Ending.returned (.bool false)=_;rw[HD.o],HR.o.1.draws _⟩
  have HD:Hi (CU ts=CU (ts.drop i)):=by unfold Hi;rw[HR.o.2.1,zt7 HXY.o.1 HXY.o.2,decide_eq_true (by omega),Bool.true_and,HI.o]
  go_upto_region 4 with (fail)
  go_quiet (fail);go_wp2_with fail;exact⟨⟨i,rfl,HR.o.1.draws _,HD.o,Or.inr hkl⟩,by show((N:Int)-((i:Int)+1)).toNat<((N:Int)-(i:Int)).toNat;omega⟩
 have hkI:¬(i:Int)<(N:Int):=zb2 hkl;go_wp2_with fail;go_ret;exact⟨by show Ending.returned (.bool true)=_;rw[HR.o.2.1,zU8 (by have:=HI.o;have:=HN.o;omega)],HR.o.1⟩
end
section
open Go.RowKit Go.Maps
theorem yd7(c:Nat->Int)(ts:List Int)(tz:Option Addr)(tc:Nat)(w:World)(h:SL w 1 (.slice tz ts.length tc) ts.length (ilL ts)):Calls Tryz.prog 131 #[.agg #[nI (c 0),nI (c 1),nI (c 2),nI (c 3),nI (c 4),nI (c 5),.slice tz ts.length tc,nI (c 7),nI (c 8)]] w λe w'=>e=.returned (.bool (decide (ts.length<=6)&&CU ts))/\Ok w w':=by
 have HM:Hi (∀Y,Ok w Y->ts.length<=6->Calls Tryz.prog 132 #[.slice tz ts.length tc] Y λe w'=>e=.returned (.bool (CU ts))/\Ok Y w'):=λY hY h6=>yo7 ts tz tc Y (h.below hY) h6;clear h;obtain⟨N,hN⟩:=qq (ts.length);rw[<-hN]at HM;rw[<-hN];clear hN;by_cases h6:N<=6
 ·have h6I:(N:Int)<=6:=oM
  have HD:=hid (dT_ h6);go_enter Tryz.func131,Tryz.ntmps131;go_wp2_with fail;refine mq (HM.o _ ((Ok.refl w).alloc _) h6) λw1 hk=>?_;have HK:Hi (Ok w w1):=((Ok.refl w).alloc _).step hk;clear hk;go_wp2_with fail;go_ret;exact⟨by rw[HD.o];rfl,HK.o⟩
 have h6I:¬(N:Int)<=6:=oM;have HD:=hid (dF_ h6);go_enter Tryz.func131,Tryz.ntmps131;go_wp2_with fail;go_ret;exact⟨rfl,(Ok.refl w).alloc _⟩
def wr1:Array Value:=#[nI 190,.func (.func 124) #[] #[],nI 191,.func (.func 126) #[] #[],nI 192,.func (.func 127) #[] #[],nI 193,.func (.func 128) #[] #[],nI 194,.func (.func 129) #[] #[],nI 195,.func (.func 130) #[] #[],nI 196,.func (.func 131) #[] #[],nI 197,.func (.func 133) #[] #[],nI 198,.func (.func 134) #[] #[]]
theorem yo8:wr1.all (·.oneCell')=true:=by unfold wr1;simp[Value.oneCell']
theorem wo8:(Tryz.prog.info? 198).map (·.size)=some 18:=by kernel_rfl
theorem zU9(w:World):Calls Tryz.prog 98 #[] w λe w'=>e=.returned (.agg #[nI 190,.func (.func 124) #[] #[],nI 191,.func (.func 126) #[] #[],nI 192,.func (.func 127) #[] #[],nI 193,.func (.func 128) #[] #[],nI 194,.func (.func 129) #[] #[],nI 195,.func (.func 130) #[] #[],nI 196,.func (.func 131) #[] #[],nI 197,.func (.func 133) #[] #[],nI 198,.func (.func 134) #[] #[]])/\Ok w w':=by
 go_enter Tryz.func98,Tryz.ntmps98
 go_wp2_with (first|(refine za8 rfl 198 _ _ rfl w.heap.size 198 #[nI 0,.nilFunc,nI 0,.nilFunc,nI 0,.nilFunc,nI 0,.nilFunc,nI 0,.nilFunc,nI 0,.nilFunc,nI 0,.nilFunc,nI 0,.nilFunc,nI 0,.nilFunc] #[nI 190,.func (.func 124) #[] #[],nI 191,.func (.func 126) #[] #[],nI 192,.func (.func 127) #[] #[],nI 193,.func (.func 128) #[] #[],nI 194,.func (.func 129) #[] #[],nI 195,.func (.func 130) #[] #[],nI 196,.func (.func 131) #[] #[],nI 197,.func (.func 133) #[] #[],nI 198,.func (.func 134) #[] #[]] (by rfl) (by rfl) (za3 _ _) wo8 rfl yo8 ?_)|fail)
 refine bodyPost_ret (results_cell_row rfl _ _ w.heap.size 198 #[nI 190,.func (.func 124) #[] #[],nI 191,.func (.func 126) #[] #[],nI 192,.func (.func 127) #[] #[],nI 193,.func (.func 128) #[] #[],nI 194,.func (.func 129) #[] #[],nI 195,.func (.func 130) #[] #[],nI 196,.func (.func 131) #[] #[],nI 197,.func (.func 133) #[] #[],nI 198,.func (.func 134) #[] #[]] (0,0) _ rfl (setRow_heap _ _ _ _ _ _ (za3 _ _)) Tryz.underlying198 rfl wo8) rfl ?_;exact⟨rfl,zd0 ((Ok.refl w).alloc _) (nR_ _) _⟩
end
section
open Go.RowKit Go.Maps
theorem lix(A:Value)(hA:A=.agg #[nI 190,.func (.func 124) #[] #[],nI 191,.func (.func 126) #[] #[],nI 192,.func (.func 127) #[] #[],nI 193,.func (.func 128) #[] #[],nI 194,.func (.func 129) #[] #[],nI 195,.func (.func 130) #[] #[],nI 196,.func (.func 131) #[] #[],nI 197,.func (.func 133) #[] #[],nI 198,.func (.func 134) #[] #[]])(w:World):Sem.run Tryz.prog (Instr.index 198 A (nI 0)) w=.ok (.agg #[nI 190,.func (.func 124) #[] #[]]) w/\Sem.run Tryz.prog (Instr.index 198 A (nI 1)) w=.ok (.agg #[nI 191,.func (.func 126) #[] #[]]) w/\Sem.run Tryz.prog (Instr.index 198 A (nI 2)) w=.ok (.agg #[nI 192,.func (.func 127) #[] #[]]) w/\Sem.run Tryz.prog (Instr.index 198 A (nI 3)) w=.ok (.agg #[nI 193,.func (.func 128) #[] #[]]) w/\Sem.run Tryz.prog (Instr.index 198 A (nI 4)) w=.ok (.agg #[nI 194,.func (.func 129) #[] #[]]) w/\Sem.run Tryz.prog (Instr.index 198 A (nI 5)) w=.ok (.agg #[nI 195,.func (.func 130) #[] #[]]) w/\Sem.run Tryz.prog (Instr.index 198 A (nI 6)) w=.ok (.agg #[nI 196,.func (.func 131) #[] #[]]) w/\Sem.run Tryz.prog (Instr.index 198 A (nI 7)) w=.ok (.agg #[nI 197,.func (.func 133) #[] #[]]) w/\Sem.run Tryz.prog (Instr.index 198 A (nI 8)) w=.ok (.agg #[nI 198,.func (.func 134) #[] #[]]) w:=by
 subst hA
 refine⟨?_,?_,?_,?_,?_,?_,?_,?_,?_⟩<;>kernel_rfl
theorem wd0:(Tryz.prog.info? 197).map (·.size)=some 2:=by kernel_rfl
theorem zk4(w:World)(cs:Array Value):∃(X:World) (g:Nat),((w.alloc (Obj.cells #[nI 0,.nilFunc] 197)).setRow w.heap.size cs=X/\w.heap.size=g)/\Hi (Ok w X)/\Hi (X.heap[g]?=some (.cells cs 197 (0,0))/\g<X.heap.size) :=
 ⟨_,_,⟨rfl,rfl⟩,zd0 ((Ok.refl w).alloc _) (nR_ _) _,setRow_heap _ _ _ _ _ _ (za3 _ _),za2 (setRow_heap _ _ _ _ _ _ (za3 _ _))⟩
def CX(c:Nat->Int)(ts:List Int):Nat->Bool
 | 0=>decide (0<=c 0)&&decide (c 0<=3)
 | 1=>decide (0<=c 1)&&decide (c 1<=3)
 | 2=>decide (1<=c 2)&&decide (c 2<=6)
 | 3=>decide (0<=c 3)&&decide (c 3<=6)
 | 4=>decide (0<=c 4)&&decide (c 4<=3)
 | 5=>decide (0<=c 5)&&decide (c 5<=3)
 | 6=>decide (ts.length<=6)&&CU ts
 | 7=>decide (0<=c 7)&&decide (c 7<=5000)
 | 8=>decide (0<=c 8)&&decide (c 8<=4)
 | _=>true
def AJ(c:Nat->Int)(ts:List Int):Int:=match (List.range 9).find? (λk => !CX c ts k) with
 | some k=>190+(k:Int)
 | none=>0
theorem zg0(hk:k<9)(hl:∀j,j<k->CX c ts j=true)(h:CX c ts k=false):AJ c ts=190+(k:Int):=by
 have e:(List.range 9).find? (λk => !CX c ts k)=some k:=by rw[List.find?_range_eq_some];exact⟨by rw[h];rfl,List.mem_range.2 hk,λj hj=>by rw[hl j hj];rfl⟩
 unfold AJ;rw[e]
theorem zg1(hl:∀j,j<k->CX c ts j=true)(h:CX c ts k=true):∀j,j<k+1->CX c ts j=true:=λj hj=>by
 by_cases e:j=k
 ·rw[e];exact h
 exact hl j oM
theorem yd8(hl:∀j,j<9->CX c ts j=true):AJ c ts=0:=by
 have e:(List.range 9).find? (λk => !CX c ts k)=none:=by rw[List.find?_eq_none];intro j hj;rw[hl j (List.mem_range.1 hj)];decide
 unfold AJ;rw[e]
theorem zo0(h:AJ c ts=0)(hk:k<9):CX c ts k=true:=by
 unfold AJ at h
 cases hf:(List.range 9).find? (λk => !CX c ts k) with
 | none =>
  have h1:=List.find?_eq_none.1 hf k (List.mem_range.2 hk)
  cases hb:CX c ts k with
  | true=>rfl
  | false=>rw[hb]at h1;exact absurd rfl h1
 | some k=>rw[hf]at h;have h1:190+(k:Int)=0:=h;omega
theorem zK4(c:Nat->Int)(ts:List Int)(tz:Option Addr)(tc:Nat)(w:World)(h:SL w 1 (.slice tz ts.length tc) ts.length (ilL ts)):Calls Tryz.prog 59 #[.agg #[nI (c 0),nI (c 1),nI (c 2),nI (c 3),nI (c 4),nI (c 5),.slice tz ts.length tc,nI (c 7),nI (c 8)]] w λe w'=>e=.returned (nI (AJ c ts))/\Ok w w':=by
 have HL0:Hi (∀Y,Ok w Y->Calls Tryz.prog 124 #[.agg #[nI (c 0),nI (c 1),nI (c 2),nI (c 3),nI (c 4),nI (c 5),.slice tz ts.length tc,nI (c 7),nI (c 8)]] Y λe w'=>e=.returned (.bool (CX c ts 0))/\Ok Y w'):=λY hY=>yc9 c tz ts.length tc Y;have HL1:Hi (∀Y,Ok w Y->Calls Tryz.prog 126 #[.agg #[nI (c 0),nI (c 1),nI (c 2),nI (c 3),nI (c 4),nI (c 5),.slice tz ts.length tc,nI (c 7),nI (c 8)]] Y λe w'=>e=.returned (.bool (CX c ts 1))/\Ok Y w'):=λY hY=>yd0 c tz ts.length tc Y;have HL2:Hi (∀Y,Ok w Y->Calls Tryz.prog 127 #[.agg #[nI (c 0),nI (c 1),nI (c 2),nI (c 3),nI (c 4),nI (c 5),.slice tz ts.length tc,nI (c 7),nI (c 8)]] Y λe w'=>e=.returned (.bool (CX c ts 2))/\Ok Y w'):=λY hY=>yd1 c tz ts.length tc Y;have HL3:Hi (∀Y,Ok w Y->Calls Tryz.prog 128 #[.agg #[nI (c 0),nI (c 1),nI (c 2),nI (c 3),nI (c 4),nI (c 5),.slice tz ts.length tc,nI (c 7),nI (c 8)]] Y λe w'=>e=.returned (.bool (CX c ts 3))/\Ok Y w'):=λY hY=>yd2 c tz ts.length tc Y;have HL4:Hi (∀Y,Ok w Y->Calls Tryz.prog 129 #[.agg #[nI (c 0),nI (c 1),nI (c 2),nI (c 3),nI (c 4),nI (c 5),.slice tz ts.length tc,nI (c 7),nI (c 8)]] Y λe w'=>e=.returned (.bool (CX c ts 4))/\Ok Y w'):=λY hY=>yd3 c tz ts.length tc Y;have HL5:Hi (∀Y,Ok w Y->Calls Tryz.prog 130 #[.agg #[nI (c 0),nI (c 1),nI (c 2),nI (c 3),nI (c 4),nI (c 5),.slice tz ts.length tc,nI (c 7),nI (c 8)]] Y λe w'=>e=.returned (.bool (CX c ts 5))/\Ok Y w'):=λY hY=>yd4 c tz ts.length tc Y;have HL6:Hi (∀Y,Ok w Y->Calls Tryz.prog 131 #[.agg #[nI (c 0),nI (c 1),nI (c 2),nI (c 3),nI (c 4),nI (c 5),.slice tz ts.length tc,nI (c 7),nI (c 8)]] Y λe w'=>e=.returned (.bool (CX c ts 6))/\Ok Y w'):=λY hY=>yd7 c ts tz tc Y (h.below hY);have HL7:Hi (∀Y,Ok w Y->Calls Tryz.prog 133 #[.agg #[nI (c 0),nI (c 1),nI (c 2),nI (c 3),nI (c 4),nI (c 5),.slice tz ts.length tc,nI (c 7),nI (c 8)]] Y λe w'=>e=.returned (.bool (CX c ts 7))/\Ok Y w'):=λY hY=>yd5 c tz ts.length tc Y;have HL8:Hi (∀Y,Ok w Y->Calls Tryz.prog 134 #[.agg #[nI (c 0),nI (c 1),nI (c 2),nI (c 3),nI (c 4),nI (c 5),.slice tz ts.length tc,nI (c 7),nI (c 8)]] Y λe w'=>e=.returned (.bool (CX c ts 8))/\Ok Y w'):=λY hY=>yd6 c tz ts.length tc Y;clear h;obtain⟨N,hN⟩:=qq (ts.length);rw[<-hN]at HL0 HL1 HL2 HL3 HL4 HL5 HL6 HL7 HL8;rw[<-hN];clear hN;go_enter Tryz.func59,Tryz.ntmps59;go_wp2_with fail;refine mq (zU9 _) λW0 hk0=>?_;have HK:Hi (Ok w W0):=((Ok.refl w).alloc _).step hk0;obtain⟨g1,hg1⟩:=qq (w.heap.size);have HC0:Hi (W0.heap[g1]?=some (.cells #[nI (c 0),nI (c 1),nI (c 2),nI (c 3),nI (c 4),nI (c 5),.slice tz N tc,nI (c 7),nI (c 8)] 24 (0,0))):=Ok.row' hk0 (by rw[hg1];exact za3 _ _);rw[<-hg1];clear hg1 hk0;go_wp2_with fail;go_loopw [6] (λt6 wr=>∃k:Nat,t6=nI (k:Nat)/\k<=9/\Hi (Ok W0 wr/\∀j,j<k->CX c ts j=true)) (λt6 _=>((9:Int)-intOf t6).toNat)
 case atStart=>exact⟨0,rfl,by omega,Ok.refl _,λj hj=>absurd hj (Nat.not_lt_zero _)⟩
 obtain⟨k,rfl,hk,HR⟩:=hrel;have HC:Hi _:=Ok.row' HR.o.1 HC0.o;have HKW:=hid (HK.o.step HR.o.1);have HE:=hid hk
 match k,hk with
 | 0,_ =>
  have ix:=(lix _ rfl wr).1
  go_wp2_with (first|(refine za8 rfl 197 _ _ rfl wr.heap.size 197 #[nI 0,.nilFunc] #[nI 190,.func (.func 124) #[] #[]] (by rfl) (by rfl) (za3 _ _) wd0 rfl (by simp[Value.oneCell']) ?_;obtain⟨X,gL,hX,HKX,HKL⟩:=zk4 wr #[nI 190,.func (.func 124) #[] #[]];rw[hX.1,hX.2];clear hX;obtain⟨q0,q1,qf0,qf1⟩:=zd1 HKL.o.1;have lgl:=HKL.o.2;obtain⟨p0,p1,p2,p3,p4,p5,p6,p7,p8,lgp⟩:=CQ (Ok.row' HKX.o HC.o))|fail)
  refine mq (HL0.o _ (HKW.o.step HKX.o)) λw2 hk2=>?_;have HK2:=hid (HKX.o.step hk2);have r1:=hk2.cell (p:=⟨gL,0,none⟩) lgl q0;have l2:=lL_ lgl hk2.le;clear hk2 p0 p1 p2 p3 p4 p5 p6 p7 p8 lgp ix q0 q1 qf0 qf1
  cases hb:CX c ts 0 with
  | true =>
   have HB:=hid hb;clear hb;go_wp2_with fail;exact⟨⟨1,rfl,by omega,HR.o.1.step HK2.o,zg1 HR.o.2 HB.o⟩,by decide⟩
  | false =>
   have HB:Hi (AJ c ts=190):=zg0 dC HR.o.2 hb;clear hb;go_wp2_with fail;go_ret;exact⟨by rw[HB.o];rfl,HKW.o.step HK2.o⟩
 | 1,_ =>
  have ix:=(lix _ rfl wr).2.1
  go_wp2_with (first|(refine za8 rfl 197 _ _ rfl wr.heap.size 197 #[nI 0,.nilFunc] #[nI 191,.func (.func 126) #[] #[]] (by rfl) (by rfl) (za3 _ _) wd0 rfl (by simp[Value.oneCell']) ?_;obtain⟨X,gL,hX,HKX,HKL⟩:=zk4 wr #[nI 191,.func (.func 126) #[] #[]];rw[hX.1,hX.2];clear hX;obtain⟨q0,q1,qf0,qf1⟩:=zd1 HKL.o.1;have lgl:=HKL.o.2;obtain⟨p0,p1,p2,p3,p4,p5,p6,p7,p8,lgp⟩:=CQ (Ok.row' HKX.o HC.o))|fail)
  refine mq (HL1.o _ (HKW.o.step HKX.o)) λw2 hk2=>?_;have HK2:=hid (HKX.o.step hk2);have r1:=hk2.cell (p:=⟨gL,0,none⟩) lgl q0;have l2:=lL_ lgl hk2.le;clear hk2 p0 p1 p2 p3 p4 p5 p6 p7 p8 lgp ix q0 q1 qf0 qf1
  cases hb:CX c ts 1 with
  | true =>
   have HB:=hid hb;clear hb;go_wp2_with fail;exact⟨⟨2,rfl,by omega,HR.o.1.step HK2.o,zg1 HR.o.2 HB.o⟩,by decide⟩
  | false =>
   have HB:Hi (AJ c ts=191):=zg0 dC HR.o.2 hb;clear hb;go_wp2_with fail;go_ret;exact⟨by rw[HB.o];rfl,HKW.o.step HK2.o⟩
 | 2,_ =>
  have ix:=(lix _ rfl wr).2.2.1
  go_wp2_with (first|(refine za8 rfl 197 _ _ rfl wr.heap.size 197 #[nI 0,.nilFunc] #[nI 192,.func (.func 127) #[] #[]] (by rfl) (by rfl) (za3 _ _) wd0 rfl (by simp[Value.oneCell']) ?_;obtain⟨X,gL,hX,HKX,HKL⟩:=zk4 wr #[nI 192,.func (.func 127) #[] #[]];rw[hX.1,hX.2];clear hX;obtain⟨q0,q1,qf0,qf1⟩:=zd1 HKL.o.1;have lgl:=HKL.o.2;obtain⟨p0,p1,p2,p3,p4,p5,p6,p7,p8,lgp⟩:=CQ (Ok.row' HKX.o HC.o))|fail)
  refine mq (HL2.o _ (HKW.o.step HKX.o)) λw2 hk2=>?_;have HK2:=hid (HKX.o.step hk2);have r1:=hk2.cell (p:=⟨gL,0,none⟩) lgl q0;have l2:=lL_ lgl hk2.le;clear hk2 p0 p1 p2 p3 p4 p5 p6 p7 p8 lgp ix q0 q1 qf0 qf1
  cases hb:CX c ts 2 with
  | true =>
   have HB:=hid hb;clear hb;go_wp2_with fail;exact⟨⟨3,rfl,by omega,HR.o.1.step HK2.o,zg1 HR.o.2 HB.o⟩,by decide⟩
  | false =>
   have HB:Hi (AJ c ts=192):=zg0 dC HR.o.2 hb;clear hb;go_wp2_with fail;go_ret;exact⟨by rw[HB.o];rfl,HKW.o.step HK2.o⟩
 | 3,_ =>
  have ix:=(lix _ rfl wr).2.2.2.1
  go_wp2_with (first|(refine za8 rfl 197 _ _ rfl wr.heap.size 197 #[nI 0,.nilFunc] #[nI 193,.func (.func 128) #[] #[]] (by rfl) (by rfl) (za3 _ _) wd0 rfl (by simp[Value.oneCell']) ?_;obtain⟨X,gL,hX,HKX,HKL⟩:=zk4 wr #[nI 193,.func (.func 128) #[] #[]];rw[hX.1,hX.2];clear hX;obtain⟨q0,q1,qf0,qf1⟩:=zd1 HKL.o.1;have lgl:=HKL.o.2;obtain⟨p0,p1,p2,p3,p4,p5,p6,p7,p8,lgp⟩:=CQ (Ok.row' HKX.o HC.o))|fail)
  refine mq (HL3.o _ (HKW.o.step HKX.o)) λw2 hk2=>?_;have HK2:=hid (HKX.o.step hk2);have r1:=hk2.cell (p:=⟨gL,0,none⟩) lgl q0;have l2:=lL_ lgl hk2.le;clear hk2 p0 p1 p2 p3 p4 p5 p6 p7 p8 lgp ix q0 q1 qf0 qf1
  cases hb:CX c ts 3 with
  | true =>
   have HB:=hid hb;clear hb;go_wp2_with fail;exact⟨⟨4,rfl,by omega,HR.o.1.step HK2.o,zg1 HR.o.2 HB.o⟩,by decide⟩
  | false =>
   have HB:Hi (AJ c ts=193):=zg0 dC HR.o.2 hb;clear hb;go_wp2_with fail;go_ret;exact⟨by rw[HB.o];rfl,HKW.o.step HK2.o⟩
 | 4,_ =>
  have ix:=(lix _ rfl wr).2.2.2.2.1
  go_wp2_with (first|(refine za8 rfl 197 _ _ rfl wr.heap.size 197 #[nI 0,.nilFunc] #[nI 194,.func (.func 129) #[] #[]] (by rfl) (by rfl) (za3 _ _) wd0 rfl (by simp[Value.oneCell']) ?_;obtain⟨X,gL,hX,HKX,HKL⟩:=zk4 wr #[nI 194,.func (.func 129) #[] #[]];rw[hX.1,hX.2];clear hX;obtain⟨q0,q1,qf0,qf1⟩:=zd1 HKL.o.1;have lgl:=HKL.o.2;obtain⟨p0,p1,p2,p3,p4,p5,p6,p7,p8,lgp⟩:=CQ (Ok.row' HKX.o HC.o))|fail)
  refine mq (HL4.o _ (HKW.o.step HKX.o)) λw2 hk2=>?_;have HK2:=hid (HKX.o.step hk2);have r1:=hk2.cell (p:=⟨gL,0,none⟩) lgl q0;have l2:=lL_ lgl hk2.le;clear hk2 p0 p1 p2 p3 p4 p5 p6 p7 p8 lgp ix q0 q1 qf0 qf1
  cases hb:CX c ts 4 with
  | true =>
   have HB:=hid hb;clear hb;go_wp2_with fail;exact⟨⟨5,rfl,by omega,HR.o.1.step HK2.o,zg1 HR.o.2 HB.o⟩,by decide⟩
  | false =>
   have HB:Hi (AJ c ts=194):=zg0 dC HR.o.2 hb;clear hb;go_wp2_with fail;go_ret;exact⟨by rw[HB.o];rfl,HKW.o.step HK2.o⟩
 | 5,_ =>
  have ix:=(lix _ rfl wr).2.2.2.2.2.1
  go_wp2_with (first|(refine za8 rfl 197 _ _ rfl wr.heap.size 197 #[nI 0,.nilFunc] #[nI 195,.func (.func 130) #[] #[]] (by rfl) (by rfl) (za3 _ _) wd0 rfl (by simp[Value.oneCell']) ?_;obtain⟨X,gL,hX,HKX,HKL⟩:=zk4 wr #[nI 195,.func (.func 130) #[] #[]];rw[hX.1,hX.2];clear hX;obtain⟨q0,q1,qf0,qf1⟩:=zd1 HKL.o.1;have lgl:=HKL.o.2;obtain⟨p0,p1,p2,p3,p4,p5,p6,p7,p8,lgp⟩:=CQ (Ok.row' HKX.o HC.o))|fail)
  refine mq (HL5.o _ (HKW.o.step HKX.o)) λw2 hk2=>?_;have HK2:=hid (HKX.o.step hk2);have r1:=hk2.cell (p:=⟨gL,0,none⟩) lgl q0;have l2:=lL_ lgl hk2.le;clear hk2 p0 p1 p2 p3 p4 p5 p6 p7 p8 lgp ix q0 q1 qf0 qf1
  cases hb:CX c ts 5 with
  | true =>
   have HB:=hid hb;clear hb;go_wp2_with fail;exact⟨⟨6,rfl,by omega,HR.o.1.step HK2.o,zg1 HR.o.2 HB.o⟩,by decide⟩
  | false =>
   have HB:Hi (AJ c ts=195):=zg0 dC HR.o.2 hb;clear hb;go_wp2_with fail;go_ret;exact⟨by rw[HB.o];rfl,HKW.o.step HK2.o⟩
 | 6,_ =>
  have ix:=(lix _ rfl wr).2.2.2.2.2.2.1
  go_wp2_with (first|(refine za8 rfl 197 _ _ rfl wr.heap.size 197 #[nI 0,.nilFunc] #[nI 196,.func (.func 131) #[] #[]] (by rfl) (by rfl) (za3 _ _) wd0 rfl (by simp[Value.oneCell']) ?_;obtain⟨X,gL,hX,HKX,HKL⟩:=zk4 wr #[nI 196,.func (.func 131) #[] #[]];rw[hX.1,hX.2];clear hX;obtain⟨q0,q1,qf0,qf1⟩:=zd1 HKL.o.1;have lgl:=HKL.o.2;obtain⟨p0,p1,p2,p3,p4,p5,p6,p7,p8,lgp⟩:=CQ (Ok.row' HKX.o HC.o))|fail)
  refine mq (HL6.o _ (HKW.o.step HKX.o)) λw2 hk2=>?_;have HK2:=hid (HKX.o.step hk2);have r1:=hk2.cell (p:=⟨gL,0,none⟩) lgl q0;have l2:=lL_ lgl hk2.le;clear hk2 p0 p1 p2 p3 p4 p5 p6 p7 p8 lgp ix q0 q1 qf0 qf1
  cases hb:CX c ts 6 with
  | true =>
   have HB:=hid hb;clear hb;go_wp2_with fail;exact⟨⟨7,rfl,by omega,HR.o.1.step HK2.o,zg1 HR.o.2 HB.o⟩,by decide⟩
  | false =>
   have HB:Hi (AJ c ts=196):=zg0 dC HR.o.2 hb;clear hb;go_wp2_with fail;go_ret;exact⟨by rw[HB.o];rfl,HKW.o.step HK2.o⟩
 | 7,_ =>
  have ix:=(lix _ rfl wr).2.2.2.2.2.2.2.1
  go_wp2_with (first|(refine za8 rfl 197 _ _ rfl wr.heap.size 197 #[nI 0,.nilFunc] #[nI 197,.func (.func 133) #[] #[]] (by rfl) (by rfl) (za3 _ _) wd0 rfl (by simp[Value.oneCell']) ?_;obtain⟨X,gL,hX,HKX,HKL⟩:=zk4 wr #[nI 197,.func (.func 133) #[] #[]];rw[hX.1,hX.2];clear hX;obtain⟨q0,q1,qf0,qf1⟩:=zd1 HKL.o.1;have lgl:=HKL.o.2;obtain⟨p0,p1,p2,p3,p4,p5,p6,p7,p8,lgp⟩:=CQ (Ok.row' HKX.o HC.o))|fail)
  refine mq (HL7.o _ (HKW.o.step HKX.o)) λw2 hk2=>?_;have HK2:=hid (HKX.o.step hk2);have r1:=hk2.cell (p:=⟨gL,0,none⟩) lgl q0;have l2:=lL_ lgl hk2.le;clear hk2 p0 p1 p2 p3 p4 p5 p6 p7 p8 lgp ix q0 q1 qf0 qf1
  cases hb:CX c ts 7 with
  | true =>
   have HB:=hid hb;clear hb;go_wp2_with fail;exact⟨⟨8,rfl,by omega,HR.o.1.step HK2.o,zg1 HR.o.2 HB.o⟩,by decide⟩
  | false =>
   have HB:Hi (AJ c ts=197):=zg0 dC HR.o.2 hb;clear hb;go_wp2_with fail;go_ret;exact⟨by rw[HB.o];rfl,HKW.o.step HK2.o⟩
 | 8,_ =>
  have ix:=(lix _ rfl wr).2.2.2.2.2.2.2.2
  go_wp2_with (first|(refine za8 rfl 197 _ _ rfl wr.heap.size 197 #[nI 0,.nilFunc] #[nI 198,.func (.func 134) #[] #[]] (by rfl) (by rfl) (za3 _ _) wd0 rfl (by simp[Value.oneCell']) ?_;obtain⟨X,gL,hX,HKX,HKL⟩:=zk4 wr #[nI 198,.func (.func 134) #[] #[]];rw[hX.1,hX.2];clear hX;obtain⟨q0,q1,qf0,qf1⟩:=zd1 HKL.o.1;have lgl:=HKL.o.2;obtain⟨p0,p1,p2,p3,p4,p5,p6,p7,p8,lgp⟩:=CQ (Ok.row' HKX.o HC.o))|fail)
  refine mq (HL8.o _ (HKW.o.step HKX.o)) λw2 hk2=>?_;have HK2:=hid (HKX.o.step hk2);have r1:=hk2.cell (p:=⟨gL,0,none⟩) lgl q0;have l2:=lL_ lgl hk2.le;clear hk2 p0 p1 p2 p3 p4 p5 p6 p7 p8 lgp ix q0 q1 qf0 qf1
  cases hb:CX c ts 8 with
  | true =>
   have HB:=hid hb;clear hb;go_wp2_with fail;exact⟨⟨9,rfl,by omega,HR.o.1.step HK2.o,zg1 HR.o.2 HB.o⟩,by decide⟩
  | false =>
   have HB:Hi (AJ c ts=198):=zg0 dC HR.o.2 hb;clear hb;go_wp2_with fail;go_ret;exact⟨by rw[HB.o];rfl,HKW.o.step HK2.o⟩
 | 9,_ =>
  go_wp2_with fail;go_ret;exact⟨by rw[yd8 HR.o.2];rfl,HKW.o⟩
 | k+10,h=>exact absurd h oM
end
end Go.Proofs.YtpongdpnbclchaaGreatDoor
