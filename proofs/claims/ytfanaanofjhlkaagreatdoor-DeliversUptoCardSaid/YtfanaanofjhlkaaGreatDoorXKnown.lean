import Derived.Test.YtfanaanofjhlkaaGreatDoorXWorkers
import Derived.Deep.RegionHeld3
import Derived.Test.YtfanaanofjhlkaaGreatDoorList
import Derived.Test.YtfanaanofjhlkaaGreatDoorXOut
import Derived.BigQuiet
set_option maxHeartbeats 16000000
set_option maxRecDepth 100000
namespace Go.Proofs.YtfanaanofjhlkaaGreatDoor
open Go Go.RowKit Go.Maps Go.WideMaps Tryz
theorem aJg(a:Option Addr)(cap:Nat)(workers room mode kind arg:Int)(ks:List aS)(w:World)(hk:bH (fun _=>True) w (.slice a ks.length cap) ks)(hl:ks.length<=9223372036854775806)(hl2:∀k∈ks,k.kids.length<=9223372036854775806)(hbad:kL workers room mode ks kind arg≠0) :
  Calls prog 21 #[.agg #[.int .i64 workers,.int .i64 room,.int .i64 mode],.agg #[.slice a ks.length cap,.int .i64 kind,.int .i64 arg]] w fun e w'=>e= .returned (.tuple #[.pointer none,.int .i64 (kL workers room mode ks kind arg)])/\Below w.heap.size w w':=by
 obtain⟨V,hV⟩:∃V,(w.alloc (Obj.cells #[.int .i64 workers,.int .i64 room,.int .i64 mode] 38)).alloc (Obj.cells #[.slice a ks.length cap,.int .i64 kind,.int .i64 arg] 41)=V:=⟨_,rfl⟩;have bC:aD V w.heap.size 38 #[.int .i64 workers,.int .i64 room,.int .i64 mode]:=by rw[<-hV];exact(aD.new w _ _).alloc _
 have bP:aD V (w.heap.size+1) 41 #[.slice a ks.length cap,.int .i64 kind,.int .i64 arg]:=by
  rw[<-hV];have:=aD.new (w.alloc (Obj.cells #[.int .i64 workers,.int .i64 room,.int .i64 mode] 38)) 41 #[.slice a ks.length cap,.int .i64 kind,.int .i64 arg];rw[World.size_alloc]at this;exact this
 have hbV:Below w.heap.size w V:=by rw[<-hV];exact((e_ _ _).alloc (a_ _) _).alloc (by simp) _
 have c0:=bC.cell (o:=0) rfl;have c1:=bC.cell (o:=1) rfl;have c2:=bC.cell (o:=2) rfl;have HBP:=aC bP;have HKV:Hid (bH (fun b=>b < w.heap.size) V (.slice a ks.length cap) ks):=(hk.below.kept (aB.of_below hbV (X:=fun b=>w.heap.size<=b) (fun _ _ h=>h)) (fun b h1 h2=>by omega)).mono' (fun _ h=>h.2);have HBV:Hid (Below w.heap.size w V):=hbV;have HL2:Hid (∀k∈ks,k.kids.length<=9223372036854775806):=hl2;have sV:w.heap.size<=V.heap.size:=hbV.size;obtain⟨cb,hcb⟩:∃cb,fC workers room mode=cb:=⟨_,rfl⟩;have HCF:=aC (vE workers room mode V);rw[hcb]at HCF;obtain⟨ne,hne⟩:∃ne,kL workers room mode ks kind arg=ne:=⟨_,rfl⟩;have HNE:Hid (ne=if cb then(eC ks kind arg).1 else 2):=by show _=_;rw[<-hne,<-hcb];rfl
 rw[hne]at hbad ⊢;clear bC bP hbV hk hl2 hcb hne;go_enter func21,ntmps21;cases cb with
 |false=>
  obtain rfl:(2:Int)=ne:=HNE.out.symm
  go_wp2_with (go_at_call 47;refine HCF.out.mono ?_;rintro e w1 ⟨rfl,hb1⟩)
  go_ret2
  exact⟨rfl,HBV.out.trans (hb1.mono sV)⟩
 |true=>
  obtain rfl:(eC ks kind arg).1=ne:=HNE.out.symm
  go_upto_region 3 with(go_at_call 47;refine HCF.out.mono ?_;rintro e w1 ⟨rfl,hb1⟩)
  have hP1:=HBP.out.below hb1 HBP.out.lt;have p0:=hP1.cell (o:=0) rfl;have p1:=hP1.cell (o:=1) rfl;have p2:=hP1.cell (o:=2) rfl;have HU:=aC (wC a cap kind arg ks w1 ((HKV.out.kept (aB.of_below hb1 (X:=fun b=>V.heap.size<=b) (fun _ _ h=>h)) (fun b h1 h2=>by omega)).mono' (fun _ _=>trivial)) hl HL2.out);have hb:((eC ks kind arg).1 != 0)=true:=by simpa using hbad
  clear hP1
  go_wp2_with (go_at_call 35;refine HU.out.mono ?_;rintro e w2 ⟨v2,rfl,-,hb2⟩)
  go_ret2
  exact⟨rfl,(HBV.out.trans (hb1.mono sV)).trans (hb2.mono (by have:=hb1.size;omega))⟩
theorem kX{A W:World}(h:Below A.heap.size A W)(o:Obj):Below A.heap.size A (W.alloc o):=h.alloc h.size o
theorem aMj{n:Nat}{room mode kind arg:Int}{ks:List aS}{W:World}{base B M lo hi lo2 hi2 g:Nat}{kv:Value}{part:Nat->Nat}{xs:List XW}(hn:0 < n)(hbox:aD W B 105 #[kv,.int .i64 kind,.int .i64 arg,.int .i64 mode,.slice (some ⟨g,0,none⟩) n n,.slice none 0 0,.map (some M),.int .i64 0,.int .i64 0,.int .i64 0,.int .i64 0,.bool false,.int .i64 0,.int .i64 0,.bool false,.bool false,.bool false])(hK:bH (fun b=>lo<=b/\b < hi) W kv ks)
  {D:DataW Unit} (hM:eZ W M D) (hD:mE D []) (hpt:∀b,part b≠0->lo2<=b/\b < hi2/\7<=part b) (hrow:cO (fun b=>part b=7) 119 8 dB W (.slice (some ⟨g,0,none⟩) n n) xs) (hxl:xs.length=n) (hn5:n<=5) (htl:∀i x,xs[i]?= some x->mF part W n room mode i x (if i=0 then [⟨⟨#[]⟩,kind,arg⟩]else []) (decide (i=0)))
  (h1:base<=lo) (h2:hi<=lo2) (h3:M < lo\/(hi<=M/\M < lo2)\/hi2<=M) (h4:base<=M) (h5:hi2<=B) (h6:M≠B) (h7:lo<=lo2) (h8:lo2<=hi2):bK (fun b=>base<=b) W B (dD n room mode ks kind arg):=by
 have hpp:∀g',part g'≠0->(fun b=>if b=B then 1 else if b=M then 3 else if lo<=b/\b < hi then 6 else part b) g'=part g':=fun g' hne=>by
  have h:=hpt g' hne;exact(if_neg (by omega)).trans ((if_neg (by omega)).trans (if_neg (by omega)))
 refine⟨fun b=>if b=B then 1 else if b=M then 3 else if lo<=b/\b < hi then 6 else part b,fun b hb=> ?_,⟨kv,_,_,M,xs,hbox,if_pos rfl,hK.mono' (fun b hb=> ?_),⟨hrow.1,fun g' e=> ?_⟩,by rw[hxl];simp[dD];omega,fun i x y hx hy=> ?_,by simp[dD];omega,fun ls hls=> ?_,by simp[dD];omega,fun i x ls hx hl=> ?_,fun i x hx=> ?_,cO.nil _ _ _ _ _,⟨D,hM,(if_neg h6).trans (if_pos rfl),hD⟩,fun i x y hx hy=> ?_⟩⟩
 ·dsimp only at hb
  by_cases e1:b=B
  ·omega
  ·rw[if_neg e1]at hb
   by_cases e2:b=M
   ·omega
   ·rw[if_neg e2]at hb
    by_cases e3:lo<=b/\b < hi
    ·omega
    ·rw[if_neg e3]at hb
     have:=hpt b hb;omega
 ·exact(if_neg (by omega)).trans ((if_neg (by omega)).trans (if_pos hb))
 ·have:=hrow.2 g' e
  exact(hpp g' (by omega)).trans this
 ·have q:=htl i x hx
  have hy':y.tasks=(if i=0 then [⟨⟨#[]⟩,kind,arg⟩]else [])/\y.asked=false/\y.sent=0/\y.came=0/\y.black=false:=by
   cases i with
   |zero=>simp[dD]at hy;subst hy;exact⟨rfl,rfl,rfl,rfl,rfl⟩
   |succ i=>
    have:(List.replicate ((n:Int).toNat - 1) cR)[i]?= some y:=by simpa[dD]using hy
    rw[lX this];exact⟨rfl,rfl,rfl,rfl,rfl⟩
  rw[hy'.1];exact⟨⟨q.notes.asked.trans hy'.2.1.symm,q.notes.sent.trans hy'.2.2.1.symm,q.notes.came.trans hy'.2.2.2.1.symm,q.notes.black.trans hy'.2.2.2.2.symm⟩,q.tasks.kept (aB.refl (fun _=>False) W) (fun g' _ e=>⟨fun h=>h,(hpp g' (by omega)).trans e⟩)⟩
 ·have:ls=List.replicate n cN:=by
   have:=List.eq_of_mem_replicate hls;simpa using this
  rw[this];simp[dD];omega
 ·have hl':ls=List.replicate n cN:=by
   have:(List.replicate (n:Int).toNat (List.replicate (n:Int).toNat cN))[i]?= some ls:=hl;rw[lX this];simp
  rw[hl'];exact(htl i x hx).out.kept (aB.refl (fun _=>False) W) (fun g' _ e=>⟨fun h=>h,hpp g' (by omega)⟩)
 ·have hl':(dD n room mode ks kind arg).links=List.replicate n (List.replicate n cN):=by simp[dD]
  rw[hl'];exact(htl i x hx).ins.kept (aB.refl (fun _=>False) W) (fun g' _ e=>⟨fun h=>h,hpp g' (by omega)⟩)
 ·have q:=(htl i x hx).tok.kept (X':=fun g'=>(fun b=>if b=B then 1 else if b=M then 3 else if lo<=b/\b < hi then 6 else part b) g'=20+i) (aB.refl (fun _=>False) W) (fun g' _ e=>⟨fun h=>h,(hpp g' (by omega)).trans e⟩)
  have hy':y.has=decide (i=0)/\y.token=cR.token:=by
   cases i with
   |zero=>simp[dD]at hy;subst hy;exact⟨rfl,rfl⟩
   |succ i=>
    have:(List.replicate ((n:Int).toNat - 1) cR)[i]?= some y:=by simpa[dD]using hy
    rw[lX this];exact⟨by simp[cR],rfl⟩
  have e:(i==0&&(dD n room mode ks kind arg).around)=false:=by simp[dD]
  rw[e];exact q.like hy'.1 hy'.2
theorem sC{n:Nat}{room mode kind arg:Int}{ks:List aS}{W W3 W5:World}{base B M lo lo2 g:Nat}{kv:Value}{part:Nat->Nat}{xs:List XW}{D:DataW Unit}(hn:0 < n)(hbox:aD W B 105 #[kv,.int .i64 kind,.int .i64 arg,.int .i64 mode,.slice (some ⟨g,0,none⟩) n n,.slice none 0 0,.map (some M),.int .i64 0,.int .i64 0,.int .i64 0,.int .i64 0,.bool false,.int .i64 0,.int .i64 0,.bool false,.bool false,.bool false])(hK:bH (fun b=>lo<=b/\b < W3.heap.size) W3 kv ks)(h3:Below W3.heap.size W3 W)
  (hM:eZ W M D) (hD:mE D []) (hpt:∀b,part b≠0->lo2<=b/\b < W5.heap.size/\7<=part b) (hrow:cO (fun b=>part b=7) 119 8 dB W5 (.slice (some ⟨g,0,none⟩) n n) xs) (hxl:xs.length=n) (hn5:n<=5) (htl:∀i x,xs[i]?= some x->mF part W5 n room mode i x (if i=0 then [⟨⟨#[]⟩,kind,arg⟩]else []) (decide (i=0))) (h5:Below W5.heap.size W5 W)
  (g1:base<=lo) (g2:W3.heap.size<=lo2) (g3:M < lo\/(W3.heap.size<=M/\M < lo2)\/W5.heap.size<=M) (g4:base<=M) (g5:W5.heap.size<=B) (g6:M≠B) (g7:lo<=lo2) (g8:lo2<=W5.heap.size):bK (fun b=>base<=b) W B (dD n room mode ks kind arg):=by
 have k5:aB (fun b=>W5.heap.size<=b) W5 W:=aB.of_below h5 (fun _ _ h=>h);exact aMj hn hbox (hK.kept (aB.of_below h3 (X:=fun b=>W3.heap.size<=b) (fun _ _ h=>h)) (fun b h1 h2=>by omega)) hM hD hpt (hrow.kept k5 (fun g hg h=>⟨by omega,h⟩)) hxl hn5 (fun i x hx=>(htl i x hx).kept k5 (fun g hg h=>⟨by omega,rfl⟩)) g1 g2 g3 g4 g5 g6 g7 g8
theorem rH(W:World):∃D,eZ (W.alloc (Obj.map #[] 0)) W.heap.size D/\mE D []:=⟨_,uH (World.ownsMap_made W prog 9 (plainElem prog 3)),mE.nil⟩
theorem xF(a:Option Addr)(cap:Nat)(workers room mode kind arg:Int)(ks:List aS)(w:World)(hk:bH (fun _=>True) w (.slice a ks.length cap) ks)(hc:fC workers room mode=true)(hu:(eC ks kind arg).1=0) :
  Calls prog 21 #[.agg #[.int .i64 workers,.int .i64 room,.int .i64 mode],.agg #[.slice a ks.length cap,.int .i64 kind,.int .i64 arg]] w fun e w'=>∃B,e= .returned (.tuple #[.pointer (some ⟨B,0,none⟩),.int .i64 0])/\bK (fun b=>w.heap.size<=b) w' B (dD workers room mode ks kind arg)/\Below w.heap.size w w':=by
 have hprog:cD ks kind arg=true:=by
  by_cases h:cD ks kind arg=true
  ·exact h
  ·simp[eC,h]at hu
 have hlen5:ks.length<=5:=by simp[cD,dF]at hprog;omega
 have HL2:Hid (∀k∈ks,k.kids.length<=9223372036854775806):=fun k hk=>by
  simp[cD]at hprog;have:=hprog.1.1.2 k hk;simp[cL]at this;have:=this.1.2;omega
 obtain⟨V,hV⟩:∃V,(w.alloc (Obj.cells #[.int .i64 workers,.int .i64 room,.int .i64 mode] 38)).alloc (Obj.cells #[.slice a ks.length cap,.int .i64 kind,.int .i64 arg] 41)=V:=⟨_,rfl⟩;have bC:aD V w.heap.size 38 #[.int .i64 workers,.int .i64 room,.int .i64 mode]:=by rw[<-hV];exact(aD.new w _ _).alloc _
 have bP:aD V (w.heap.size+1) 41 #[.slice a ks.length cap,.int .i64 kind,.int .i64 arg]:=by
  rw[<-hV];have:=aD.new (w.alloc (Obj.cells #[.int .i64 workers,.int .i64 room,.int .i64 mode] 38)) 41 #[.slice a ks.length cap,.int .i64 kind,.int .i64 arg];rw[World.size_alloc]at this;exact this
 have hbV:Below w.heap.size w V:=by rw[<-hV];exact((e_ _ _).alloc (a_ _) _).alloc (by simp) _
 have sV:w.heap.size+2<=V.heap.size:=by rw[<-hV];simp
 have h2:2<=workers:=by simp[fC]at hc;omega
 have h5:workers<=5:=by simp[fC]at hc;omega
 obtain⟨n,rfl⟩:∃n:Nat,workers=(n:Int):=⟨workers.toNat,by omega⟩;have c0:=bC.cell (o:=0) rfl;have c1:=bC.cell (o:=1) rfl;have c2:=bC.cell (o:=2) rfl;have HBP:=aC bP;have HBC:=aC bC;have HKV:Hid (bH (fun b=>b < w.heap.size) V (.slice a ks.length cap) ks):=(hk.below.kept (aB.of_below hbV (X:=fun b=>w.heap.size<=b) (fun _ _ h=>h)) (fun b h1 h2=>by omega)).mono' (fun _ h=>h.2);have HBV:Hid (Below w.heap.size w V):=hbV;have HCF:=aC (vE n room mode V);rw[hc]at HCF;have hmm:= @run_makeMap prog;have HU0:Hid ((eC ks kind arg).1=0):=hu;clear bC bP hbV hk hc hu;go_enter func21,ntmps21
 go_upto_region 3 with(go_at_call 47;refine HCF.out.mono ?_;rintro e w1 ⟨rfl,hb1⟩)
 have hP1:=HBP.out.below hb1 HBP.out.lt;have p0:=hP1.cell (o:=0) rfl;have p1:=hP1.cell (o:=1) rfl;have p2:=hP1.cell (o:=2) rfl;have HU:=aC (wC a cap kind arg ks w1 ((HKV.out.kept (aB.of_below hb1 (X:=fun b=>V.heap.size<=b) (fun _ _ h=>h)) (fun b h1 h2=>by omega)).mono' (fun _ _=>trivial)) (by omega) HL2.out);rw[HU0.out]at HU;have HB1:=aC hb1;have s1:=hb1.size;clear hP1 c0 c1 c2 hV
 go_upto_region 6 with(go_at_call 35;refine HU.out.mono ?_;rintro e w2 ⟨v2,rfl,-,hb2⟩)
 have s2:=hb2.size;have hbV2:Below V.heap.size V w2:=HB1.out.trans (hb2.mono s1);have HP2:=aC (HBP.out.below hbV2 HBP.out.lt);have HC2:=aC (HBC.out.below hbV2 HBC.out.lt);have HK2:Hid (bH (fun b=>b < w.heap.size) w2 (.slice a ks.length cap) ks):=HKV.out.kept (aB.of_below hbV2 (X:=fun b=>V.heap.size<=b) (fun _ _ h=>h)) (fun b h1 h2=>by omega);have HBw2:Hid (Below w.heap.size w w2):=HBV.out.trans (hbV2.mono (by omega));have HCP:Hid (∀U,Below w2.heap.size w2 U->Calls prog 48 #[.agg #[.slice a ks.length cap,.int .i64 kind,.int .i64 arg]] U fun e w'=>∃v,e= .returned v/\∃a' c',v= .agg #[.slice a' ks.length c',.int .i64 kind,.int .i64 arg]/\bH (fun b=>U.heap.size<=b/\b < w'.heap.size) w' (.slice a' ks.length c') ks/\Below U.heap.size U w'/\Below w2.heap.size w2 w'):=fun U hU=>by
  refine(aIc a cap kind arg ks U ((HK2.out.kept (aB.of_below hU (X:=fun b=>w2.heap.size<=b) (fun _ _ h=>h)) (fun b h1 h2=>by have:=HBw2.out.size;omega)).mono' (fun _ _=>trivial)) hprog).mono ?_;rintro e w' ⟨a',c',rfl,h1,h2⟩;exact⟨_,rfl,a',c',rfl,h1.below,h2,hU.trans (h2.mono hU.size)⟩
 have HFI:Hid (∀U,Below w2.heap.size w2 U->Calls prog 50 #[.agg #[.slice a ks.length cap,.int .i64 kind,.int .i64 arg]] U fun e w'=>∃v,e= .returned v/\v= .agg #[.string ⟨#[]⟩,.int .i64 kind,.int .i64 arg]/\Below U.heap.size U w'/\Below w2.heap.size w2 w'):=fun U hU=>by
  refine(wH a ks.length cap kind arg U).mono ?_;rintro e w' ⟨rfl,h1⟩;exact⟨_,rfl,rfl,h1,hU.trans (h1.mono hU.size)⟩
 have HNW:Hid (∀U,Below w2.heap.size w2 U->Calls prog 49 #[.agg #[.int .i64 n,.int .i64 room,.int .i64 mode],.agg #[.string ⟨#[]⟩,.int .i64 kind,.int .i64 arg]] U fun e w'=>∃v,e= .returned v/\∃(part:Nat->Nat) (g:Nat) (xs:List XW),v= .slice (some ⟨g,0,none⟩) n n/\(∀b,part b≠0->U.heap.size<=b/\b < w'.heap.size/\7<=part b)/\
   cO (fun b=>part b=7) 119 8 dB w' (.slice (some ⟨g,0,none⟩) n n) xs/\xs.length=n/\(∀i x,xs[i]?= some x->mF part w' n room mode i x (if i=0 then [⟨⟨#[]⟩,kind,arg⟩]else []) (decide (i=0)))/\Below U.heap.size U w'/\Below w2.heap.size w2 w'):=fun U hU=>by
  refine(aAo n room mode ⟨⟨#[]⟩,kind,arg⟩ U (by omega) (by omega)).mono ?_;rintro e w' ⟨part,g,xs,rfl,h1,h2,h3,h4,h5⟩;exact⟨_,rfl,part,g,xs,rfl,h1,h2,h3,h4,h5,hU.trans (h5.mono hU.size)⟩
 clear p0 p1 p2 hb1 hb2 hbV2;have HST:Hid (∀U,Below w2.heap.size w2 U->Below w2.heap.size w2 U/\U.cell? ⟨w.heap.size+1,0,none⟩=some (.slice a ks.length cap)/\U.cell? ⟨w.heap.size+1,1,none⟩=some (.int .i64 kind)/\U.cell? ⟨w.heap.size+1,2,none⟩=some (.int .i64 arg)/\U.cell? ⟨w.heap.size,0,none⟩=some (.int .i64 n)/\U.cell? ⟨w.heap.size,1,none⟩=some (.int .i64 room)/\U.cell? ⟨w.heap.size,2,none⟩=some (.int .i64 mode)):=fun U hU=>by
  have hP:=HP2.out.below hU HP2.out.lt;have hC:=HC2.out.below hU HC2.out.lt;exact⟨hU,hP.cell (o:=0) rfl,hP.cell (o:=1) rfl,hP.cell (o:=2) rfl,hC.cell (o:=0) rfl,hC.cell (o:=1) rfl,hC.cell (o:=2) rfl⟩
 have p0:=HP2.out.cell (o:=0) rfl;have p1:=HP2.out.cell (o:=1) rfl;have p2:=HP2.out.cell (o:=2) rfl;have c0:=HC2.out.cell (o:=0) rfl;have c1:=HC2.out.cell (o:=1) rfl;have c2:=HC2.out.cell (o:=2) rfl
 go_region_held3 (fun U=>Below w2.heap.size w2 U/\U.cell? ⟨w.heap.size+1,0,none⟩=some (.slice a ks.length cap)/\U.cell? ⟨w.heap.size+1,1,none⟩=some (.int .i64 kind)/\U.cell? ⟨w.heap.size+1,2,none⟩=some (.int .i64 arg)/\U.cell? ⟨w.heap.size,0,none⟩=some (.int .i64 n)/\U.cell? ⟨w.heap.size,1,none⟩=some (.int .i64 room)/\U.cell? ⟨w.heap.size,2,none⟩=some (.int .i64 mode))
  (first|assumption|(exact HST.out _ (by assumption))|(exact HST.out _ (e_ _ _))|(exact HST.out _ (e_ _ _).drew)|(exact HST.out _ (kX (by assumption) _))|(exact HST.out _ (kX (And.left (by assumption)) _))|(exact HST.out _ (kX (kX (And.left (by assumption)) _) _)))
  (first
  |(go_at_call 48;refine(HCP.out _ (by first|assumption|exact e_ _ _|exact(e_ _ _).drew|exact And.left (by assumption))).mono ?_;rintro e w3 ⟨v3,rfl,a3,c3,rfl,hK3,hU3,hb3⟩)
  |(go_at_call 50;refine(HFI.out _ (by first|assumption|exact And.left (by assumption))).mono ?_;rintro e w4 ⟨v4,rfl,rfl,hU4,hb4⟩)
  |(go_at_call 49;refine(HNW.out _ (by first|assumption|exact And.left (by assumption))).mono ?_;rintro e w5 ⟨v5,rfl,part,g5,xs,rfl,hpt5,hrow5,hxl5,htl5,hU5,hb5⟩))
 ·go_wp2_with fail
  go_ret2
  obtain⟨D,hM,hD⟩:=rH w5;have e2:=HBw2.out.size;have e3:w2.heap.size<=w3.heap.size:=hU3.size;have e4:=hU4.size;have e5:=hU5.size;have hA:=kX (e_ w5.heap.size w5) (Obj.map #[] 0);refine⟨_,rfl,sC (M:=w5.heap.size) (lo:=w2.heap.size) (by omega) (fM _ _ _ _ (by simp)) hK3 ?_ (hM.below ((e_ _ _).alloc (a_ _) _) (by simp)) hD hpt5 hrow5 hxl5 (by omega) htl5 (kX hA _) (by omega) e4 (.inr (.inr (a_ _))) (by omega) (by omega) (by omega) (by omega) e5,?_⟩
  ·exact((hU4.trans (hU5.mono e4)).alloc (by omega) _).alloc (by simp;omega) _
  ·exact HBw2.out.trans (((hb5.alloc hb5.size _).alloc (by simp;omega) _).mono HBw2.out.size)
 ·go_wp2_with fail
  go_ret2
  obtain⟨D,hM,hD⟩:=rH w4;have e2:=HBw2.out.size;have e3:w2.heap.size<=w3.heap.size:=hU3.size;have e4:=hU4.size;have e5:w4.heap.size+1<=w5.heap.size:=by have:=hU5.size;simpa using this
  have hA:Below w4.heap.size w4 w5:=(kX (e_ w4.heap.size w4) (Obj.map #[] 0)).trans (hU5.mono (by simp));have hM5:eZ w5 w4.heap.size D:=hM.below hU5 (by simp);refine⟨_,rfl,sC (M:=w4.heap.size) (lo:=w2.heap.size) (lo2:=w4.heap.size+1) (by omega) (fM _ _ _ _ rfl) hK3 ?_ (hM5.below ((e_ _ _).alloc (a_ _) _) hM5.lt) hD (fun b hb=>by have:=hpt5 b hb;simpa using this) hrow5 hxl5 (by omega) htl5 (kX (e_ _ _) _) (by omega) (by omega) (.inr (.inl ⟨by omega,by omega⟩)) (by omega) (a_ _) (by omega) (by omega) e5,?_⟩
  ·exact(hU4.trans (hA.mono e4)).alloc (by omega) _
  ·exact HBw2.out.trans ((hb5.alloc hb5.size _).mono HBw2.out.size)
 ·go_wp2_with fail
  go_ret2
  obtain⟨D,hM,hD⟩:=rH w3;have e2:=HBw2.out.size;have e3:w2.heap.size<=w3.heap.size:=hU3.size;have e4:w3.heap.size+1<=w4.heap.size:=by have:=hU4.size;simpa using this
  have e5:=hU5.size;have hA:Below w3.heap.size w3 w4:=(kX (e_ w3.heap.size w3) (Obj.map #[] 0)).trans (hU4.mono (by simp));have hM4:eZ w4 w3.heap.size D:=hM.below hU4 (by simp);have hM5:eZ w5 w3.heap.size D:=hM4.below hU5 hM4.lt;refine⟨_,rfl,sC (M:=w3.heap.size) (lo:=w2.heap.size) (lo2:=w4.heap.size) (by omega) (fM _ _ _ _ rfl) hK3 ?_ (hM5.below ((e_ _ _).alloc (a_ _) _) hM5.lt) hD hpt5 hrow5 hxl5 (by omega) htl5 (kX (e_ _ _) _) (by omega) (by omega) (.inr (.inl ⟨by omega,by omega⟩)) (by omega) (a_ _) (by omega) (by omega) e5,?_⟩
  ·exact(hA.trans (hU5.mono (by omega))).alloc (by omega) _
  ·exact HBw2.out.trans ((hb5.alloc hb5.size _).mono HBw2.out.size)
 ·go_wp2_with fail
  go_ret2
  obtain⟨D,hM,hD⟩:=rH w2;have e2:=HBw2.out.size;have e3:w2.heap.size+1<=w3.heap.size:=by have:=hU3.size;have h9:(w2.alloc (Obj.map #[] 0)).heap.size<=w3.heap.size:=this;simpa using h9
  have e4:=hU4.size;have e5:=hU5.size;have hM3:eZ w3 w2.heap.size D:=by
   have hMd:eZ (w2.alloc (Obj.map #[] 0)).drew w2.heap.size D:=hM;exact hMd.below hU3 hMd.lt
  have hM4:eZ w4 w2.heap.size D:=hM3.below hU4 hM3.lt;have hM5:eZ w5 w2.heap.size D:=hM4.below hU5 hM4.lt;have hK3':bH (fun b=>w2.heap.size+1<=b/\b < w3.heap.size) w3 (.slice a3 ks.length c3) ks:=hK3.mono' (fun b hb=>⟨by have h9:(w2.alloc (Obj.map #[] 0)).heap.size<=b:=hb.1;simpa using h9,hb.2⟩);refine⟨_,rfl,sC (M:=w2.heap.size) (lo:=w2.heap.size+1) (lo2:=w4.heap.size) (by omega) (fM _ _ _ _ rfl) hK3' ?_ (hM5.below ((e_ _ _).alloc (a_ _) _) hM5.lt) hD hpt5 hrow5 hxl5 (by omega) htl5 (kX (e_ _ _) _) (by omega) (by omega) (.inl (by omega)) (by omega) (a_ _) (by omega) (by omega) e5,?_⟩
  ·exact(hU4.trans (hU5.mono (by omega))).alloc (by omega) _
  ·exact HBw2.out.trans ((hb5.alloc hb5.size _).mono HBw2.out.size)
end Go.Proofs.YtfanaanofjhlkaaGreatDoor
namespace Go.Proofs.YtfanaanofjhlkaaGreatDoor
open Go Go.RowKit Go.Shelf Tryz
def oA{α:Type}(F:Fence)(n:Nat)(P:Program)(g:Nat)(lb:Array Value)(encs:α->Array Value)(X:Nat->Prop)(L:List α)(W:World):Prop:=
 ∀(l:Nat) (J:List α->World->Prop),(∀s A B,J s A->Below A.heap.size A B->J s B)->
  (∀pre x W1,J pre W1->W.heap.size<=W1.heap.size->pre++ [x] <+: L->YieldAt F (n - 1) P l (encs x) W1 fun e W'=>e= .returned (.bool true)/\J (pre++ [x]) W'/\aB X W1 W')->
  J [] W->
  CallsIn F n P g (#[.func (.yield l) #[] #[]]++lb) W fun e W'=>(∃v,e= .returned v)/\J L W'
def aMe{α:Type}(X:Nat->Prop)(I:List α->World->Prop)(xs:List α)(W:World):Exit->Act->World->Prop
 | .normal,_,W'=>aB X W W'/\I xs W'
 |_,_,_=>False
section
variable {F:Fence} {n:Nat} {P:Program}
theorem aHk{α:Type}{g:Operand}{ps:Array Tmp}{assign body:Code}{Q:Exit->Act->World->Prop}{a:Act}{w:World}
  (hro:F.round=none) (h1:F.depth.isSome=true->1<=n) {gf:Nat} {lb:Array Value} (hg:a.eval g= .func (.func gf) #[] lb) (hFg:F.fn gf) (eg:∀args w,(callFunc gf args).run P w= .ok (.enter gf args) w)
  {encs:α->Array Value} {L:List α} (X:Nat->Prop) (hX:∀k,X k->k≠w.heap.size/\k≠w.heap.size+1)
  (hseq:∀W,Below w.heap.size w W->W.heap.size=w.heap.size+2->oA F (n - 1) P gf lb encs (fun k=>X k\/k=w.heap.size+1) L W)
  (hps:∀x,(encs x).size=ps.size)
  (I:List α->World->Prop) (hI:∀s A B,I s A->aB (·= w.heap.size+1) A B->I s B) (h0:I [] w)
  (Ax:List α->α->Act->World->Prop) (hAx:∀pre x a' A B,Ax pre x a' A->aB (·= w.heap.size+1) A B->Ax pre x a' B)
  (hassign:∀(l:Nat) (pre:List α) (x:α) (W:World) (K:Act->World->Prop),pre++ [x] <+: L->I pre W->w.heap.size+2<=W.heap.size->(∀a' W',aB X W W'->I pre W'->Ax pre x a' W'->K a' W')->
   assign.wpIn (F.inRound l) (n - 1 - 1) P (Exit.then K (fun _ _ _=>False)) {tmps:=(ps.zip (encs x)).foldl (fun t (p,v)=>t.setIfInBounds p v) a.tmps,defers:=[]} W)
  (hbody:∀(l:Nat) (pre:List α) (x:α) (a':Act) (W:World),pre++ [x] <+: L->I pre W->Ax pre x a' W->w.heap.size+2<=W.heap.size->body.wpIn (F.inRound l) (n - 1 - 1) P (aMe X I (pre++ [x]) W) a' W)
  (hdone:∀(D:Nat) (W:World),w.heap.size<=D->I L W->W.heap[D]?= some (.deferred (some []))->Q .normal {a with defers:={target:= .collected D,args:=#[]} :: a.defers} W) :
  (Code.rangeFunc g ps assign body).wpIn F n P Q a w:=by
 refine wpIn_rangeFunc fun fn hfn=> ?_
 rw[hro];obtain⟨rec,hrec⟩:∃rec:LoopState->Option Code->Loop,rec=fun st pe=>{state:=st,pending:=pe,fn,tmps:=a.tmps,params:=ps,assign,body,defers:=w.heap.size}:=⟨_,rfl⟩
 obtain⟨V,hV⟩:∃V,(w.alloc (.deferred (some []))).alloc (.loop (rec .ready none))=V:=⟨_,rfl⟩;have vsize:V.heap.size=w.heap.size+2:=by rw[<-hV];simp
 have vbelow:Below w.heap.size w V:=by
  rw[<-hV];exact((e_ _ w).alloc (a_ _) _).alloc (by simp) _
 have vloop:V.heap[w.heap.size+1]?= some (.loop (rec .ready none)):=by
  have h:=World.alloc_heap_new (w.alloc (.deferred (some []))) (.loop (rec .ready none));rw[World.size_alloc]at h;rw[<-hV];exact h
 have vdef:V.heap[w.heap.size]?= some (.deferred (some [])):=by
  rw[<-hV];exact(Below.heap_alloc _ _ _ (by simp)).trans (World.alloc_heap_new w _)
 refine⟨w.heap.size+1,[{target:= .collected w.heap.size,args:=#[]}],V,{target:= .fn (.func gf) lb,args:=#[.func (.yield (w.heap.size+1)) #[] #[]]},V,gf,
  #[.func (.yield (w.heap.size+1)) #[] #[]]++lb,V,?_,?_,?_,?_,h1,?_⟩
 ·rw[<-hV,hrec];exact run_enterLoop_outer _ _ _ _ _
 ·simp only[resolve,hg];simp[go_sem]
 ·intro f' hf';simp[Target.leads]at hf';subst hf';exact hFg
 ·simp[invoke,go_sem,eg]
 have vkept:aB (·= w.heap.size+1) w V:=aB.of_below vbelow (fun k h1 h2=>by omega);refine(hseq V vbelow vsize (w.heap.size+1)
   (fun pre W=>I pre W/\W.heap[w.heap.size+1]?= some (.loop (rec .ready none))/\W.heap[w.heap.size]?= some (.deferred (some [])))
   (fun s A B hs hb=>⟨hI s A B hs.1 (aB.of_below hb (fun k h1 h2=>by omega)),(hb.block _ (h_.1 hs.2.1).1).trans hs.2.1,(hb.block _ (h_.1 hs.2.2).1).trans hs.2.2⟩)
   ?_ ⟨hI _ _ _ h0 vkept,vloop,vdef⟩).mono ?_
 ·rintro pre x W ⟨hi,hl,hk⟩ hsz hxL
  rw[vsize]at hsz;have hy:=run_yield (P:=P) (args:=encs x) hl (by rw[hrec];exact hps x);rw[hrec]at hy;refine⟨fn,_,assign,body,hy,roundIn_of_wpIn hfn (hassign _ pre x W _ hxL hi hsz fun a' U kU iU aU=> ?_)⟩;clear hy;have n1:¬X (w.heap.size+1):=fun h=>(hX _ h).2 rfl
  have n0:¬X w.heap.size:=fun h=>(hX _ h).1 rfl
  have ul:=kU.heap hl n1;have uk:=kU.heap hk n0;have usz:w.heap.size+2<=U.heap.size:=Nat.le_trans hsz kU.size;refine⟨_,run_beginRound ul (by rw[hrec]),?_⟩;obtain⟨T,hT⟩:∃T,U.putObj (w.heap.size+1) (.loop {rec .ready none with state:= .busy})=T:=⟨_,rfl⟩;rw[hT];have kT:aB (·= w.heap.size+1) U T:=by rw[<-hT];exact aB.putObj _ _ _ rfl
  have tl:T.heap[w.heap.size+1]?= some (.loop {rec .ready none with state:= .busy}):=by rw[<-hT];exact World.putObj_heap_same (by omega)
  have tk:T.heap[w.heap.size]?= some (.deferred (some [])):=kT.heap uk (by omega);refine wpIn_mono (hbody _ pre x a' T hxL (hI _ _ _ iU kT) (hAx _ _ _ _ _ aU kT) (Nat.le_trans usz kT.size)) ?_;rintro e a3 Z hp;cases e with
  |normal=>
   obtain⟨kZ,hi3⟩:=hp;have zl:=kZ.heap tl n1;have zk:=kZ.heap tk n0;have zr:=run_endRound (P:=P) none zl;rw[hrec]at zr zl;refine⟨_,_,zr,rfl,⟨hI _ _ _ hi3 (aB.putObj _ _ _ rfl),?_,(World.putObj_heap_other (by omega)).trans zk⟩,?_⟩
   ·rw[hrec];exact World.putObj_heap_same (h_.1 zl).1
   ·exact(((kU.mono (fun k _ h=> .inl h)).trans (kT.mono (fun k _ h=> .inr h))).trans (kZ.mono (fun k _ h=> .inl h))).trans (aB.putObj _ _ _ (.inr rfl))
  |ret=>exact hp.elim
  |exit id=>exact hp.elim
  |goto t=>exact hp.elim
  |panic ch=>exact hp.elim
  |outgrown=>exact hp.elim
 ·rintro e Z ⟨⟨v,rfl⟩,hi,hl,hk⟩
  have hlt:=(h_.1 hl).1;exact⟨none,_,by have:=run_endLoop (P:=P) hl (by rw[hrec];simp);rw[hrec]at this;exact this,hdone _ _ (a_ _) (hI _ _ _ hi (aB.putObj _ _ _ rfl)) ((World.putObj_heap_other (by omega)).trans hk)⟩
end
attribute [local go_sem] Oper.semAt_some
theorem aCc(n:Nat)(Bp Bt:Nat)(X ok:Nat->Prop)(a:Option Addr)(cap:Nat)(kind arg:Int)(ks:List aS)(t:aL)(L:List aL)(hL:aW ks t=L)(W:World)
  (hp:aD W Bp 41 #[.slice a ks.length cap,.int .i64 kind,.int .i64 arg]) (ht:aD W Bt 62 #[.string t.id,.int .i64 t.kind,.int .i64 t.arg])
  (hk:bH ok W (.slice a ks.length cap) ks) (hX:∀b,ok b->¬X b) (hXt:¬X Bt)
  (hprog:cD ks kind arg=true) (h0:0<=t.kind) (h1:t.kind < ks.length) (h2:0<=t.arg) (h3:t.arg<=12) (h4:t.id.size<=12) :
  oA Fence.wide n prog 170 #[.pointer (some ⟨Bp,0,none⟩),.pointer (some ⟨Bt,0,none⟩)] (fun c:aL=>#[fG c]) X L W:=by
 intro l J hJ hY hJ0;obtain⟨id,k,x⟩:=t;obtain⟨a',cap',hs,hc⟩:=hk;simp only[Value.slice.injEq]at hs;obtain⟨rfl,-,rfl⟩:=hs;simp only at h0 h1 h2 h3 h4 ht;obtain⟨j,rfl⟩:=Int.eq_ofNat_of_zero_le h0;have hj:j < ks.length:=by omega
 obtain⟨c,hcc⟩:∃c,ks[j]?= some c:=⟨_,b_ hj⟩;obtain⟨b,o,v,rfl,hok,hbw,c0,c1,c2,hkk⟩:=hc j c hcc;obtain⟨a',cap',rfl,h'⟩:=hkk;have hkb:cL ks.length c=true:=by
  simp[cD]at hprog;exact hprog.1.1.2 c (d_ hcc)
 have hlen:ks.length<=5:=by simp[cD,dF]at hprog;omega
 have hkl:c.kids.length<=3:=by simp[cL]at hkb;exact hkb.1.2
 have hkids:∀d∈c.kids,1<=d.less/\d.less<=9/\0<=d.kind/\d.kind < ks.length:=by
  intro d hd;simp[cL,eW,jI,dF]at hkb;have:=hkb.2 d hd;omega
 have HC:Hid (L=dX id x 0 c.kids):=by rw[<-hL];simp[Hid,aW,jH,hcc]
 have p0:=hp.cell (o:=0) rfl;have t0:=ht.cell (o:=0) rfl;have t1:=ht.cell (o:=1) rfl;have t2:=ht.cell (o:=2) rfl;clear hprog hkb hc hL;refine callsIn_of_wp func170 rfl trivial ?_ rfl;simp only[ntmps170,List.size_toArray,List.length_cons,List.length_nil,Nat.reduceAdd,Nat.reduceSub,Array.replicate_succ,Array.replicate_zero,List.push_toArray,List.append_toArray,List.nil_append,List.cons_append]
 gi_wp2
 gi_loopw [15] (fun i wr=>∃(m:Nat) (pre:List aL),m<=c.kids.length/\i= .int .i64 m/\L=pre++dX id x m (c.kids.drop m)/\J pre wr/\aB (fun k=>X k\/W.heap.size<=k) W wr)
  (fun i _=>c.kids.length - (intOf i).toNat)
 case atStart=>exact⟨0,[],Nat.zero_le _,rfl,HC.out,hJ0,aB.refl _ _⟩
 case round=>
  obtain⟨m,pre,hm,rfl,hpre,hJs,hkw⟩:=hrel;have HP:Hid (L=pre++dX id x m (c.kids.drop m)):=hpre;clear hpre;have nt:¬(X Bt\/W.heap.size<=Bt):=fun h=>h.elim hXt (fun h=>Nat.not_lt_of_le h ht.lt)
  have u0:=(ht.kept hkw nt).cell (o:=0) rfl;have u1:=(ht.kept hkw nt).cell (o:=1) rfl;have u2:=(ht.kept hkw nt).cell (o:=2) rfl;have hbt:=(ht.kept hkw nt).lt;by_cases hlt:m < c.kids.length
  ·obtain⟨d,hd⟩:∃d,c.kids[m]?= some d:=⟨_,b_ hlt⟩
   obtain⟨b',o',rfl,hok',hbw',d0,d1⟩:=h' m d hd;have nb:¬(X b'\/W.heap.size<=b'):=fun h=>h.elim (hX b' hok') (fun h=>Nat.not_lt_of_le h hbw')
   have f0:=(hkw.cell (p:=⟨b',o'+m*2,none⟩) hbw' nb).trans d0;have f1:=(hkw.cell (p:=⟨b',o'+m*2+1,none⟩) hbw' nb).trans d1;obtain⟨hl1,hl9,hk0,hk1⟩:=hkids d (d_ hd);have v0:=fun o=>cE o u0
   have v2:=fun o=>cE o u2
   have HG:Hid (dX id x m (c.kids.drop m)=if d.less<=x then⟨gN id m,d.kind,x - d.less⟩ :: dX id x (m+1) (c.kids.drop (m+1))else dX id x (m+1) (c.kids.drop (m+1))):=vB id x c.kids m d hd;by_cases hless:d.less<=x
   ·gi_wp2
    refine wpIn_wide.2 ?_;have g0:=(aD.new wr 53 #[Value.int IntKind.i64 d.kind,Value.int IntKind.i64 d.less]).cell (o:=0) rfl;have g1:=(aD.new wr 53 #[Value.int IntKind.i64 d.kind,Value.int IntKind.i64 d.less]).cell (o:=1) rfl;have z1:¬9223372036854775807 < id.size+1:=by omega
    have z2:id.size < 9223372036854775807:=by omega
    have z3:IntKind.i64.wrap (x - d.less)=x - d.less:=IntWalk.i64_in _ (by omega)
    go_region_held3 (fun w'=>w'.cell? ⟨Bt,0,none⟩=some (.string id)/\w'.cell? ⟨Bt,2,none⟩=some (.int .i64 x)/\w'.cell? ⟨wr.heap.size,0,none⟩=some (.int .i64 d.kind)/\w'.cell? ⟨wr.heap.size,1,none⟩=some (.int .i64 d.less)) (go_keep)
     (first|(go_at_call 171;refine(xE m (by omega) _).mono ?_;rintro e w' ⟨rfl,rfl⟩))
    all_goals
     obtain⟨V,hV⟩:∃V,((wr.alloc (Obj.cells #[Value.int IntKind.i64 d.kind,Value.int IntKind.i64 d.less] 53)).alloc (Obj.cells #[Value.string (id++{data:=#[iP m]}),Value.int IntKind.i64 d.kind,Value.int IntKind.i64 (x - d.less)] 62)).drew=V:=⟨_,rfl⟩;have hbV:Below wr.heap.size wr V:=by
      rw[<-hV];exact(((e_ _ wr).alloc (a_ _) _).alloc (by simp) _).drew
     have bx:aD V (wr.heap.size+1) 62 #[Value.string (id++{data:=#[iP m]}),Value.int IntKind.i64 d.kind,Value.int IntKind.i64 (x - d.less)]:=by
      rw[<-hV];have:=aD.new (wr.alloc (Obj.cells #[Value.int IntKind.i64 d.kind,Value.int IntKind.i64 d.less] 53)) 62 #[Value.string (id++{data:=#[iP m]}),Value.int IntKind.i64 d.kind,Value.int IntKind.i64 (x - d.less)];rw[World.size_alloc]at this;exact this
     have y0:=bx.cell (o:=0) rfl;have y1:=bx.cell (o:=1) rfl;have y2:=bx.cell (o:=2) rfl;rw[hV];clear hV;obtain⟨q,hq⟩:∃q:aL,q=⟨gN id m,d.kind,x - d.less⟩:=⟨_,rfl⟩;have hP2:Hid (L=(pre++ [q])++dX id x (m+1) (c.kids.drop (m+1))):=by
      refine HP.out.trans ?_;rw[HG.out,if_pos hless];simp[hq]
     obtain⟨fn,tmps,assign,body,hy,hR⟩:=hY pre q V (hJ _ _ _ hJs hbV) (Nat.le_trans hkw.size hbV.size) ⟨_,hP2.out.symm⟩;rw[hq]at hy;clear hq;dsimp only[fG,gN]at hy
     gi_wp2
     refine⟨fun h=>(by cases h),?_⟩;refine hR.mono ?_;rintro e W3 ⟨rfl,hJ3,hk3⟩
     ·gi_wp2
      go_roundw
      case rel=>exact⟨m+1,_,by omega,by go_num,hP2.out,hJ3,(hkw.trans (aB.of_below hbV (fun k _ h=> .inr (Nat.le_trans hkw.size h)))).trans (hk3.mono (fun k _ h=> .inl h))⟩
      case measure=>simp[intOf];omega
   ·have hP2:Hid (L=pre++dX id x (m+1) (c.kids.drop (m+1))):=by
     refine HP.out.trans ?_;rw[HG.out,if_neg hless]
    gi_wp2
    go_roundw
    case rel=>exact⟨m+1,pre,by omega,by go_num,hP2.out,hJ _ _ _ hJs ((e_ _ wr).alloc (a_ _) _),hkw.trans (aB.alloc _ _ _)⟩
    case measure=>simp[intOf];omega
  ·have hP2:Hid (L=pre):=by
    refine HP.out.trans ?_;rw[List.drop_eq_nil_of_le (by omega)];simp[dX]
   gi_wp2
   go_end0
   exact⟨⟨_,rfl⟩,by rw[hP2.out];exact hJs⟩
theorem aEz(n:Nat)(Bs:Nat)(X:Nat->Prop)(v:Value)(l0:List aL)(W:World)(hs:aD W Bs 58 #[v])(hv:eV 3 aJ W v l0)(hXv:∀g o m c,v= .slice (some ⟨g,o,none⟩) m c->0 < m->¬X g)(hl:l0.length<=100000000) :
  oA Fence.wide n prog 173 #[.pointer (some ⟨Bs,0,none⟩)] (fun c:aL=>#[fG c]) X l0 W:=by
 intro l J hJ hY hJ0;obtain⟨a,cap,rfl,hc⟩:=hv;have s0:=hs.cell (o:=0) rfl;have HC:=aC hc;have HXV:=aC hXv;clear hc hXv;refine callsIn_of_wp func173 rfl trivial ?_ rfl;simp only[ntmps173,List.size_toArray,List.length_cons,List.length_nil,Nat.reduceAdd,Nat.reduceSub,Array.replicate_succ,Array.replicate_zero,List.push_toArray,List.append_toArray,List.nil_append,List.cons_append]
 gi_wp2
 gi_loopw [7] (fun i wr=>∃m:Nat,m<=l0.length/\i= .int .i64 m/\J (l0.take m) wr/\aB (fun k=>X k\/W.heap.size<=k) W wr) (fun i _=>l0.length - (intOf i).toNat)
 case atStart=>exact⟨0,Nat.zero_le _,rfl,by simpa using hJ0,aB.refl _ _⟩
 case round=>
  obtain⟨m,hm,rfl,hJs,hkw⟩:=hrel
  rename World=>wr
  have HJS:=aC hJs;have HKW:=aC hkw;have szr:=hkw.size;clear hJs hkw;by_cases hlt:m < l0.length
  ·obtain⟨c,hcc⟩:∃c,l0[m]?= some c:=⟨_,b_ hlt⟩
   obtain⟨g,o,rfl,hgl,hce⟩:=HC.out m c hcc;have nX:¬(X g\/W.heap.size<=g):=fun h=>h.elim (HXV.out g o _ _ rfl (by omega)) (fun h=>by omega)
   have e0:wr.cell? ⟨g,o+m*3,none⟩=some (.string c.id):=(HKW.out.cell (p:=⟨g,o+m*3,none⟩) hgl nX).trans (hce 0 _ rfl);have e1:wr.cell? ⟨g,o+m*3+1,none⟩=some (.int .i64 c.kind):=(HKW.out.cell (p:=⟨g,o+m*3+1,none⟩) hgl nX).trans (hce 1 _ rfl);have e2:wr.cell? ⟨g,o+m*3+2,none⟩=some (.int .i64 c.arg):=(HKW.out.cell (p:=⟨g,o+m*3+2,none⟩) hgl nX).trans (hce 2 _ rfl);have j1:(0:Int)<=(m:Int):=by omega
   have j2:(m:Int) < (l0.length:Int):=by omega
   have HT:Hid (l0.take (m+1)=l0.take m++ [c]):=by show _=_;rw[List.take_add_one,hcc];rfl
   clear hce nX hcc;obtain⟨V,hV⟩:∃V,wr.alloc (Obj.cells #[.string c.id,.int .i64 c.kind,.int .i64 c.arg] 62)=V:=⟨_,rfl⟩;have hbV:Below wr.heap.size wr V:=by rw[<-hV];exact(e_ _ _).alloc (a_ _) _
   have bx:aD V wr.heap.size 62 #[.string c.id,.int .i64 c.kind,.int .i64 c.arg]:=by rw[<-hV];exact aD.new wr _ _
   have y0:=bx.cell (o:=0) rfl;have y1:=bx.cell (o:=1) rfl;have y2:=bx.cell (o:=2) rfl;obtain⟨fn,tmps,assign,body,hy,hR⟩:=hY (l0.take m) c V (hJ _ _ _ HJS.out hbV) (Nat.le_trans szr hbV.size) (by rw[<-HT.out];exact List.take_prefix _ _);dsimp only[fG]at hy
   gi_wp2
   refine⟨fun h=>(by cases h),?_⟩;refine hR.mono ?_;rintro e W3 ⟨rfl,hJ3,hk3⟩
   gi_wp2
   go_roundw
   case rel=>exact⟨m+1,by omega,by go_num,by rw[HT.out];exact hJ3,(HKW.out.trans (aB.of_below hbV (fun k _ h=> .inr (Nat.le_trans szr h)))).trans (hk3.mono (fun k _ h=> .inl h))⟩
   case measure=>simp[intOf];omega
  ·obtain rfl:l0.length=m:=by omega
   gi_wp2
   go_end0
   exact⟨⟨_,rfl⟩,by have:=HJS.out;rwa [List.take_length]at this⟩
end Go.Proofs.YtfanaanofjhlkaaGreatDoor
namespace Go.Proofs.YtfanaanofjhlkaaGreatDoor
open Go Go.RowKit Tryz
section
variable {part part':Nat->Nat} {W W':World} {B M:Nat} {s:aE} {kv wv yv:Value} {xs:List XW}
theorem cI.okX{F:Nat->Prop}(h:cI part part' W W')(hr:aQ part' W' B s kv wv yv M xs)(hF:∀b,part b≠0->F b):bK (fun b=>F b\/W.heap.size<=b) W' B s/\aB F W W':=by
 refine⟨⟨part',fun b hb=> ?_,kv,wv,yv,M,xs,hr⟩,h.kept.mono (fun b _ hb=>hF b hb)⟩;rcases Nat.lt_or_ge b W.heap.size with hl|hl
 ·exact .inl (hF b (h.old b hl hb))
 ·exact .inr hl
structure bD(part part':Nat->Nat)(W W':World):Prop where
 kept:aB (fun b=>part b≠0) W W'
 old:∀b,b < W.heap.size->part' b≠0->part b≠0
 ends:∀b,b < W.heap.size->200<=part b->part' b=part b/\W'.heap[b]?= W.heap[b]?
theorem bD.base(h:bD part part' W W'):cI part part' W W':=⟨h.kept,h.old⟩
theorem bD.refl(part:Nat->Nat)(W:World):bD part part W W:=⟨aB.refl _ _,fun _ _ h=>h,fun _ _ _=>⟨rfl,rfl⟩⟩
theorem bD.trans{p p' p'':Nat->Nat}{W W' W'':World}(h:bD p p' W W')(k:bD p' p'' W' W''):bD p p'' W W'':=
 ⟨h.kept.andThen k.kept (fun b hb hp=>h.old b hb hp),fun b hb hp=>h.old b hb (k.old b (Nat.lt_of_lt_of_le hb h.kept.size) hp),fun b hb hp=>by
  obtain⟨h1,h2⟩:=h.ends b hb hp;obtain⟨k1,k2⟩:=k.ends b (Nat.lt_of_lt_of_le hb h.kept.size) (by omega);exact⟨k1.trans h1,k2.trans h2⟩⟩
theorem bD.of{Y:Nat->Prop}(n:Nat)(k:aB Y W W')(hY:∀g,g < W.heap.size->Y g->part g≠0/\part g < 200):bD part (ext W part n) W W':=
 ⟨k.mono (fun g hg h=>(hY g hg h).1),fun b hb h=>by rwa [aY hb]at h,fun b hb hp=>⟨aY hb,k.block b hb (fun h=>by have:=(hY b hb h).2;omega)⟩⟩
theorem bD.okX{F:Nat->Prop}(h:bD part part' W W')(hr:aQ part' W' B s kv wv yv M xs)(hF:∀b,part b≠0->F b):bK (fun b=>F b\/W.heap.size<=b) W' B s/\aB F W W':=h.base.okX hr hF
theorem aQ.later(h:aQ part W B s kv wv yv M xs)(hb:Below W.heap.size W W'):aQ (ext W part 0) W' B s kv wv yv M xs/\bD part (ext W part 0) W W':=by
 have k:aB (fun b=>W.heap.size<=b) W W':=aB.of_below hb (fun _ _ h=>h);exact⟨h.kept k (fun g hg _=>⟨by omega,aY hg⟩),bD.of 0 k (fun g hl hg=>by omega)⟩
theorem aQ.aside{Y:Nat->Prop}(h:aQ part W B s kv wv yv M xs)(k:aB Y W W')(hY:∀g,g < W.heap.size->Y g->part g=0):aQ (ext W part 0) W' B s kv wv yv M xs:=
 h.kept k (fun g hg hp=>⟨fun hy=>hp (hY g hg hy),aY hg⟩)
theorem aQ.rebox{an:List fD}{d o:Bool}(h:aQ part W B s kv wv yv M xs)(k:aB (·= B) W W')(hb:aD W' B 105 (iY {s with answers:=an,done:=d,over:=o} kv wv yv M)):aQ (ext W part 0) W' B {s with answers:=an,done:=d,over:=o} kv wv yv M xs/\bD part (ext W part 0) W W':=by
 have hY:∀g,g < W.heap.size->g=B->part g=1:=fun g _ e=>by rw[e];exact h.pB
 have R:=h.rest (part':=ext W part 0) 5 k (fun g hg=>aY hg) (fun g hl hg=> .inl (hY g hl hg));exact⟨⟨hb,(aY h.box.lt).trans h.pB,R.kinds (by omega),R.wrow (by omega),h.wlen,fun i x y=>R.wat i x y (by omega),h.llen,h.lrow,h.five,fun i x ls=>R.lat i x ls (by omega) (.inl (by omega)),fun i x=>R.iat i x (by omega) (.inl (by omega)),R.yrow (by omega),R.vals (by omega),fun i x y=>R.tat i x y (by omega)⟩,bD.of 0 k (fun g hl hg=>by have:=hY g hl hg;omega)⟩
theorem aQ.over(h:aQ part W B s kv wv yv M xs)(k:aB (·= B) W W')(hb:aD W' B 105 (iY {s with over:=true} kv wv yv M)):aQ (ext W part 0) W' B {s with over:=true} kv wv yv M xs/\bD part (ext W part 0) W W':=
 h.rebox (an:=s.answers) (d:=s.done) (o:=true) k hb
theorem aQ.reway{yv':Value}{way':List aI}(h:aQ part W B s kv wv yv M xs)(k:aB (fun g=>g=B\/part g=2) W W')(hb:aD W' B 105 (iY {s with way:=way'} kv wv yv' M))
  (hr:W'.ownsRow 0 124 15 yv' way'.length (way'.flatMap aK)) (ho:∀g,yv'.ownBlock=some g->part g=2/\g < W.heap.size\/W.heap.size<=g) :
  aQ (ext W part 2) W' B {s with way:=way'} kv wv yv' M xs/\bD part (ext W part 2) W W':=by
 have hpB:=h.pB;have hY:∀g,g < W.heap.size->(g=B\/part g=2)->part g=1\/part g=2:=fun g _ e=>by rcases e with rfl|e<;>omega
 have R:=h.rest (part':=ext W part 2) 2 k (fun g hg=>aY hg) hY;exact⟨⟨hb,(aY h.box.lt).trans h.pB,R.kinds (by omega),R.wrow (by omega),h.wlen,fun i x y=>R.wat i x y (by omega),h.llen,h.lrow,h.five,fun i x ls=>R.lat i x ls (by omega) (.inl (by omega)),fun i x=>R.iat i x (by omega) (.inl (by omega)),rC hr ho,R.vals (by omega),fun i x y=>R.tat i x y (by omega)⟩,bD.of 2 k (fun g hl hg=>by have:=hY g hl hg;omega)⟩
theorem aQ.revals{vs:List (ByteArray×Int)}(h:aQ part W B s kv wv yv M xs)(k:aB (·= M) W W')(hv:mB part W' M vs):aQ (ext W part 0) W' B {s with values:=vs} kv wv yv M xs/\bD part (ext W part 0) W W':=by
 have h3:=h.vals.is;have hpB:=h.pB;have hY:∀g,g < W.heap.size->g=M->part g=3:=fun g _ e=>by rw[e];exact h3
 have R:=h.rest (part':=ext W part 0) 3 k (fun g hg=>aY hg) (fun g hl hg=> .inr (hY g hl hg));refine⟨⟨h.box.kept k (fun e=>by rw[e]at hpB;omega),(aY h.box.lt).trans h.pB,R.kinds (by omega),R.wrow (by omega),h.wlen,fun i x y=>R.wat i x y (by omega),h.llen,h.lrow,h.five,fun i x ls=>R.lat i x ls (by omega) (.inl (by omega)),fun i x=>R.iat i x (by omega) (.inl (by omega)),R.yrow (by omega),?_,fun i x y=>R.tat i x y (by omega)⟩,bD.of 0 k (fun g hl hg=>by have:=hY g hl hg;omega)⟩;obtain⟨D,h1,h2,h4⟩:=hv;exact⟨D,h1,(aY h.vals.lt).trans h3,h4⟩
theorem aQ.retasks{i:Nat}{x:XW}{y:cF}{l:List aL}(h:aQ part W B s kv wv yv M xs)(hi:xs[i]?= some x)(hy:s.W[i]?= some y)(k:aB (fun g=>part g=10+i) W W')
  (hx:fH (fun b=>part b=10+i/\b < W.heap.size\/W.heap.size<=b) W' x.T s.room l):aQ (ext W part (10+i)) W' B {s with W:=s.W.set i {y with tasks:=l}} kv wv yv M xs/\bD part (ext W part (10+i)) W W':=by
 have hpB:=h.pB;have h5:=h.five;have hil:=(c_.1 hy).1;have R:=h.rest (part':=ext W part (10+i)) (10+i) k (fun g hg=>aY hg) (fun g _ hg=> .inr hg);refine⟨⟨h.box.kept k (by omega),(aY h.box.lt).trans h.pB,R.kinds (by omega),R.wrow (by omega),by simpa using h.wlen,fun i' x' y' hx' hy'=> ?_,by simpa using h.llen,by simpa using h.lrow,by simpa using h5,fun i x ls=>R.lat i x ls (by omega) (.inl (by omega)),fun i x=>R.iat i x (by omega) (.inl (by omega)),R.yrow (by omega),R.vals (by omega),fun i' x' y' hx' hy'=> ?_⟩,bD.of _ k (fun g hl hg=>by omega)⟩
 rotate_left
 ·have hy1:(s.W.set i {y with tasks:=l})[i']?= some y':=hy'
  have hi5:i' < xs.length:=(c_.1 hx').1;have hwl:=h.wlen;by_cases e:i'=i
  ·subst e
   rw[i8 hil]at hy1;obtain rfl:=Option.some.inj hy1;exact(R.tat i' x' y (by omega) hx' hy).like rfl rfl
  ·rw[List.getElem?_set_ne (fun e'=>e e'.symm)]at hy1
   exact R.tat i' x' y' (by omega) hx' hy1
 have hy1:(s.W.set i {y with tasks:=l})[i']?= some y':=hy';by_cases e:i'=i
 ·subst e
  rw[hi]at hx';obtain rfl:=Option.some.inj hx';rw[i8 hil]at hy1;obtain rfl:=Option.some.inj hy1;refine⟨⟨(h.wat i' x y hi hy).1.asked,(h.wat i' x y hi hy).1.sent,(h.wat i' x y hi hy).1.came,(h.wat i' x y hi hy).1.black⟩,hx.kept (aB.refl (fun _=>False) W') (fun b _ hb=>⟨fun h=>h,?_⟩)⟩;rcases hb with⟨h1,h2⟩|h1
  ·exact(aY h2).trans h1
  ·exact gF h1
 ·rw[List.getElem?_set_ne (fun e'=>e e'.symm)]at hy1
  exact R.wat i' x' y' (by omega) hx' hy1
theorem aQ.retok{i n:Nat}{x x':XW}{y y':cF}{ar:Bool}(h:aQ part W B s kv wv yv M xs)(hi:xs[i]?= some x)(hy:s.W[i]?= some y)(ht:y'.tasks=y.tasks)(hn:x'.Notes y')(hT:x'.T=x.T/\x'.outv=x.outv/\x'.inv=x.inv)(k:aB (fun g=>part g=7) W W')(hn0:n=0\/n=20+i)(har:i≠0->ar=s.around)(htk:lW (fun b=>ext W part n b=20+i) W' s.mode (i==0&&ar) y' x'.tok)
  (hr:W'.ownsRow 0 119 8 wv (xs.set i x').length ((xs.set i x').flatMap dB)):aQ (ext W part n) W' B {s with W:=s.W.set i y',around:=ar} kv wv yv M (xs.set i x')/\bD part (ext W part n) W W':=by
 have hpB:=h.pB;have hil:=(c_.1 hy).1;have hxl:=(c_.1 hi).1;have R:=h.rest (part':=ext W part n) 7 k (fun g hg=>aY hg) (fun g _ hg=> .inr hg);refine⟨⟨h.box.kept k (by omega),(aY h.box.lt).trans h.pB,R.kinds (by omega),⟨hr,fun g e=>(aY (h.wrow.1.lt g e).2).trans (h.wrow.2 g e)⟩,by simpa using h.wlen,fun i' z' z hx' hz=> ?_,by simpa using h.llen,by simpa using h.lrow,by simpa using h.five,fun i' z' ls hx' hl=> ?_,fun i' z' hx'=> ?_,R.yrow (by omega),R.vals (by omega),fun i' z' z hx' hz=> ?_⟩,bD.of _ k (fun g hl hg=>by omega)⟩
 ·have hy1:(s.W.set i y')[i']?= some z:=hz
  by_cases e:i'=i
  ·subst e
   rw[i8 hxl]at hx';obtain rfl:=Option.some.inj hx';rw[i8 hil]at hy1;obtain rfl:=Option.some.inj hy1;exact⟨hn,by rw[ht,hT.1];exact(R.wat i' x y (by omega) hi hy).2⟩
  ·rw[List.getElem?_set_ne (fun e'=>e e'.symm)]at hy1 hx'
   exact R.wat i' z' z (by omega) hx' hy1
 ·by_cases e:i'=i
  ·subst e
   rw[i8 hxl]at hx';obtain rfl:=Option.some.inj hx';rw[hT.2.1];exact R.lat i' x ls (by omega) (.inl (by omega)) hi hl
  ·rw[List.getElem?_set_ne (fun e'=>e e'.symm)]at hx'
   exact R.lat i' z' ls (by omega) (.inl (by omega)) hx' hl
 ·by_cases e:i'=i
  ·subst e
   rw[i8 hxl]at hx';obtain rfl:=Option.some.inj hx';rw[hT.2.2];exact R.iat i' x (by omega) (.inl (by omega)) hi
  ·rw[List.getElem?_set_ne (fun e'=>e e'.symm)]at hx'
   exact R.iat i' z' (by omega) (.inl (by omega)) hx'
 ·have hy1:(s.W.set i y')[i']?= some z:=hz
  by_cases e:i'=i
  ·subst e
   rw[i8 hxl]at hx';obtain rfl:=Option.some.inj hx';rw[i8 hil]at hy1;obtain rfl:=Option.some.inj hy1;exact htk
  ·rw[List.getElem?_set_ne (fun e'=>e e'.symm)]at hy1 hx'
   have h9:=R.tat i' z' z (by omega) hx' hy1;by_cases e0:i'=0
   ·have:ar=s.around:=har (by omega)
    rw[this];exact h9
   ·have e1:(i'==0)=false:=by simp[e0]
    rw[e1]at h9 ⊢;exact h9
theorem aQ.renote{i:Nat}{x x':XW}{y y':cF}(h:aQ part W B s kv wv yv M xs)(hi:xs[i]?= some x)(hy:s.W[i]?= some y)(ht:y'.tasks=y.tasks/\y'.has=y.has/\y'.token=y.token)(hn:x'.Notes y')(hT:x'.T=x.T/\x'.outv=x.outv/\x'.inv=x.inv/\x'.tok=x.tok)(k:aB (fun g=>part g=7) W W')
  (hr:W'.ownsRow 0 119 8 wv (xs.set i x').length ((xs.set i x').flatMap dB)):aQ (ext W part 0) W' B {s with W:=s.W.set i y'} kv wv yv M (xs.set i x')/\bD part (ext W part 0) W W':=by
 have R:=h.rest (part':=ext W part 0) 7 k (fun g hg=>aY hg) (fun g _ hg=> .inr hg);refine h.retok (ar:=s.around) (n:=0) hi hy ht.1 hn ⟨hT.1,hT.2.1,hT.2.2.1⟩ k (.inl rfl) (fun _=>rfl) ?_ hr;rw[hT.2.2.2];exact(R.tat i x y (by omega) hi hy).like ht.2.1 ht.2.2
theorem lE.relink{i a b:Nat}{v:Value}{links:List (List aO)}{ls:List aO}{l l':aO}(h:lE part i W v links)(ha:links[a]?= some ls)(hb:ls[b]?= some l)(hl:b=i->mO l l'):lE part i W v (links.set a (ls.set b l')):=by
 obtain⟨qs,h1,h2,h3⟩:=h;refine⟨qs,h1,by simpa using h2,fun j q row z hq hr hz=> ?_⟩;by_cases e:j=a
 ·subst e
  rw[i8 (c_.1 ha).1]at hr;obtain rfl:=Option.some.inj hr;by_cases e:i=b
  ·subst e
   rw[i8 (c_.1 hb).1]at hz;obtain rfl:=Option.some.inj hz;exact(h3 j q ls l hq ha hb).like (hl rfl)
  ·rw[List.getElem?_set_ne (fun e'=>e e'.symm)]at hz
   exact h3 j q ls z hq ha hz
 ·rw[List.getElem?_set_ne (fun e'=>e e'.symm)]at hr
  exact h3 j q row z hq hr hz
theorem aQ.relink{i j q:Nat}{x:XW}{ls:List aO}{l l':aO}{qs:List (Option Nat)}(h:aQ part W B s kv wv yv M xs)(hi:xs[i]?= some x)(hl:s.links[i]?= some ls)(hij:j≠i)(hqs:cO (fun b=>part b=9) 206 1 jN W x.outv qs)(hql:qs.length=ls.length)(hqe:∀j q l,qs[j]?= some q->ls[j]?= some l->nI part i j W l q)(hq:qs[j]?= some (some q))(hlj:ls[j]?= some l)(hlk:mO l l')(k:aB (fun g=>part g=100+10*i+j) W W')
  (hx:jP (fun b=>part b=100+10*i+j/\b < W.heap.size\/W.heap.size<=b) W' q l'):aQ (ext W part (100+10*i+j)) W' B {s with links:=s.links.set i (ls.set j l')} kv wv yv M xs/\bD part (ext W part (100+10*i+j)) W W':=by
 have hpB:=h.pB;have h5:=h.five;have hil:=(c_.1 hl).1;have hll:=h.lrow ls (d_ hl);have hjl:j < ls.length:=by have:=(c_.1 hq).1;omega
 have R:=h.rest (part':=ext W part (100+10*i+j)) (100+10*i+j) k (fun g hg=>aY hg) (fun g _ hg=> .inr hg);have hllen:=h.llen;refine⟨⟨h.box.kept k (by omega),(aY h.box.lt).trans h.pB,R.kinds (by omega),R.wrow (by omega),h.wlen,fun i' x' y' hx' hy'=>R.wat i' x' y' (by have h':i' < s.W.length:=(c_.1 hy').1;omega) hx' hy',by simpa using h.llen,fun ls' hls'=> ?_,h5,fun i' x' ls' hx' hl'=> ?_,fun i' x' hx'=>(R.iat i' x' (by omega) (.inl (by omega)) hx').relink hl hlj (fun _=>hlk),R.yrow (by omega),R.vals (by omega),fun i' x' y' hx' hy'=>R.tat i' x' y' (by have h':i' < s.W.length:=(c_.1 hy').1;omega) hx' hy'⟩,bD.of _ k (fun g hl hg=>by omega)⟩
 ·rcases List.mem_or_eq_of_mem_set hls' with h'|rfl
  ·exact h.lrow ls' h'
  ·simpa using hll
 ·have hl1:(s.links.set i (ls.set j l'))[i']?= some ls':=hl'
  by_cases e:i'=i
  ·subst e
   rw[hi]at hx';obtain rfl:=Option.some.inj hx';rw[i8 hil]at hl1;obtain rfl:=Option.some.inj hl1;refine⟨qs,hqs.kept k (fun g hg e=>⟨by omega,(aY hg).trans e⟩),by simpa using hql,fun j' q' l hq' hl2=> ?_⟩;by_cases e:j'=j
   ·subst e
    rw[hq]at hq';obtain rfl:=Option.some.inj hq';rw[i8 hjl]at hl2;obtain rfl:=Option.some.inj hl2;refine⟨hij,hx.kept (aB.refl (fun _=>False) W') (fun b _ hb=>⟨fun h=>h,?_⟩)⟩;rcases hb with⟨h1,h2⟩|h1
    ·exact(aY h2).trans h1
    ·exact gF h1
   ·rw[List.getElem?_set_ne (fun e'=>e e'.symm)]at hl2
    exact(hqe j' q' l hq' hl2).kept k (fun g hg e=>⟨by omega,(aY hg).trans e⟩)
  ·rw[List.getElem?_set_ne (fun e'=>e e'.symm)]at hl1
   have:=h.lrow ls' (d_ hl1);exact R.lat i' x' ls' (by omega) (by omega) hx' hl1
end
def eK(F:Nat->Prop)(w:World)(B:Nat)(r:aE×Int)(e:Ending)(w':World):Prop:=e= .returned (.int .i64 r.2)/\bK (fun b=>F b\/w.heap.size<=b) w' B r.1/\aB F w w'
abbrev zX(q:Nat)(no:Int)(x:Nat->Value):Act:=⟨#[.pointer (some ⟨q,0,none⟩),.int .i64 no,x 2,x 3,x 4,x 5,x 6,x 7,x 8,x 9,x 10,x 11,x 12,x 13,x 14,x 15,x 16,x 17,x 18,x 19,x 20],[]⟩
theorem aMs(q:Nat)(no:Int)(a2 a3 a4 a5 a6 a7 a8 a9 a10 a11 a12 a13 a14 a15 a16 a17 a18 a19 a20:Value):(⟨#[.pointer (some ⟨q,0,none⟩),.int .i64 no,a2,a3,a4,a5,a6,a7,a8,a9,a10,a11,a12,a13,a14,a15,a16,a17,a18,a19,a20],[]⟩:Act)=zX q no (fun i=>(#[undef,undef,a2,a3,a4,a5,a6,a7,a8,a9,a10,a11,a12,a13,a14,a15,a16,a17,a18,a19,a20]).getD i undef):=rfl
theorem aEv(q c cap n:Nat)(L:List aI)(w:World)(hq:aD w q 159 #[.int .i64 (n:Int),.chan (some c)])(hc:gL w c cap L)(hn:n<=100000000)(hL:L.length<=n) :
  Calls prog 198 #[.pointer (some ⟨q,0,none⟩)] w fun e w'=>e= .returned (.int .i64 ((n:Int) - (L.length:Int)+1))/\∃d,w'=w.drewN d:=by
 obtain⟨s,r,hch⟩:=hc;have hsz:((L.map dJ).toArray).size=L.length:=by simp
 have l0:∀ty k,(Builtin.len_ #[157] ty #[.chan (some c)]).run prog (w.drewN k)= .ok (.int .i64 (L.length:Int)) (w.drewN k):=fun ty k=>by
  have:=tU (P:=prog) (w:=w.drewN k) 157 ty underlying157 (show(w.drewN k).heap[c]?= _ from hch);rw[hsz]at this;exact this
 have y0:=hq.cell (o:=0) rfl;have y1:=hq.cell (o:=1) rfl;have w1:IntKind.i64.wrap ((n:Int) - (L.length:Int))=(n:Int) - (L.length:Int):=IntWalk.i64_in _ (by omega);have w2:IntKind.i64.wrap ((n:Int) - (L.length:Int)+1)=(n:Int) - (L.length:Int)+1:=IntWalk.i64_in _ (by omega);clear hq hch;go_enter func198,ntmps198
 go_upto_region 1 with fail
 go_quiet (fail)
 go_wp2_with fail
 go_ret;exact⟨rfl,_,rfl⟩
theorem aGp(q c cap n:Nat)(no:Int)(L:List aI)(w:World)(hq:aD w q 159 #[.int .i64 (n:Int),.chan (some c)])(hc:gL w c cap L)(hn:n<=100000000)(hL:L.length<=n) :
  Calls prog 185 #[.pointer (some ⟨q,0,none⟩),.int .i64 no] w fun e w'=>∃v,e= .returned v/\gL w' c cap (L.drop (no - ((n:Int) - (L.length:Int))).toNat)/\aB (·= c) w w':=by
 refine sP func185 rfl ?_ (by rintro w' ⟨v,h,-⟩;cases h);simp only[ntmps185,List.size_toArray,List.length_cons,List.length_nil,Nat.reduceAdd,Nat.reduceSub,Array.replicate_succ,Array.replicate_zero,List.push_toArray,List.append_toArray,List.nil_append,List.cons_append];have hqc:q≠c:=fun e=>by
  obtain⟨s,r,hch⟩:=hc;subst e;have h1:w.heap[q]?= _:=hq;rw[hch]at h1;cases h1
 refine bN.block ?_;refine bN.loop (fun m a W=>∃(k:Nat) (x:Nat->Value),L.length - k=m/\k<=L.length/\(k=0\/(n:Int) - (L.length:Int)+k<=no)/\a=zX q no x/\gL W c cap (L.drop k)/\aB (·= c) w W) (L.length - 0) ?start ?round
 case start=>exact⟨0,fun i=>(#[.pointer (some ⟨q,0,none⟩),.int .i64 no]).getD i undef,rfl,Nat.zero_le _,.inl rfl,rfl,by simpa using hc,aB.refl _ _⟩
 case round=>
  rintro m a W ⟨k,x,hm,hk,hkn,rfl,hcW,hkW⟩;have hqW:=hq.kept hkW hqc;have hch:=hcW;obtain⟨s,r,hch⟩:=hch;have hsz:(((L.drop k).map dJ).toArray).size=(L.drop k).length:=by simp
  have hlen:∀ty,(Builtin.len_ #[157] ty #[.chan (some c)]).run prog W= .ok (.int .i64 ((L.drop k).length:Int)) W:=fun ty=>by
   have:=tU (P:=prog) (w:=W) 157 ty underlying157 hch;rw[hsz]at this;exact this
  have hll:(L.drop k).length=L.length - k:=List.length_drop ..;have HF:=aC (aEv q c cap n (L.drop k) W hqW hcW hn (by omega));have y1:=hqW.cell (o:=1) rfl;refine bN.seq ?_;by_cases h0:(L.drop k).length=0
  ·
   have g0:decide (((L.drop k).length:Int) > 0)=false:=by rw[h0];rfl
   have HKW:=aC hkW;have HCW:=aC hcW;have HD:Hid (L.drop (no - ((n:Int) - (L.length:Int))).toNat=L.drop k\/True):= .inr trivial;rw[h0]at hlen;clear hcW hkW hch;refine bN.step (fun K hK=> ?_)
   go_wp2_with fail
   refine bN.cond (t:=false) rfl ?_;refine bN.of_wp (wp_exit ?_);simp only[Exit.then,Exit.inBlock,if_true]
   go_end0
   refine⟨_,rfl,?_,HKW.out⟩;have e:L.drop (no - ((n:Int) - (L.length:Int))).toNat=L.drop k:=by
    rw[List.drop_eq_nil_of_le (by omega:L.length<=k)];rcases hkn with rfl|hkn
    ·rw[List.drop_eq_nil_of_le];omega
    ·rw[List.drop_eq_nil_of_le];omega
   rw[e];exact HCW.out
  ·obtain⟨d,hd⟩:∃d,(L.drop k).length=d:=⟨_,rfl⟩
   rw[hd]at hlen HF h0 hll;have HLL:Hid (d=L.length - k):=hll;have HMM:Hid (L.length - k=m):=hm;have HDD:Hid ((L.drop k).length=d):=hd;clear hll hm hsz hd;have g0:decide ((d:Int) > 0)=true:=by simp;omega
   have g1:(0:Int) < (d:Int):=by omega
   by_cases hle:(n:Int) - (d:Int)+1<=no
   ·have hdc:decide ((n:Int) - (d:Int)+1<=no)=true:=decide_eq_true hle
    have HKW:=aC hkW;have HCW:=aC hch;have HQW:=aC hqW;clear hcW hkW hch hqW;refine bN.step (fun K hK=> ?_)
    go_wp2_with (go_at_call 198;refine HF.out.mono ?_;rintro e W1 ⟨rfl,dd,rfl⟩)
    refine bN.cond (t:=true) (by first|rfl|(show Value.bool (decide _)=_;rw[hdc])) ?_;refine bN.of_wp (wp_skip ?_);simp only[Exit.then];refine bN.block (bN.region ?_);change dQ _ _ [0,1,2,3,4] _ _ _;have y1':(W.drewN dd).cell? ⟨q,1,none⟩=some (.chan (some c)):=y1;refine dQ.oper rfl rfl (fun K hK=> ?_);go_simp
    rw[mG];refine hK _ _ ?_;clear hK K;refine dQ.oper rfl rfl (fun K hK=> ?_);go_simp
    rw[mG];refine hK _ _ ?_;clear hK K;refine dQ.oper rfl rfl (fun K hK=> ?_);go_simp
    rw[mG];refine hK _ _ ?_;clear hK K;refine dQ.oper rfl rfl (fun K hK=> ?_);go_simp
    rw[mG];refine hK _ _ ?_;clear hK K;obtain⟨m',rest,hmr⟩:∃m' rest,L.drop k=m' :: rest:=by
     cases hx:L.drop k with
     |nil=>have hd:=HDD.out;rw[hx]at hd;simp at hd;omega
     |cons a b=>exact⟨a,b,rfl⟩
    have hrest:L.drop (k+1)=rest:=by
     rw[<-List.drop_drop,hmr];rfl
    have hcW:=HCW.out;rw[hmr]at hcW;refine dQ.recv (ok:=false) (c:=c) (z:= .agg (aG aH)) rfl rfl (by simp[go_sem,Conc.rcase,aH]) (show(W.drewN dd).heap[c]?= _ from hcW) (by simp) ?_;have hg1:(((m' :: rest).map dJ).toArray).extract 1 (((m' :: rest).map dJ).toArray).size=(rest.map dJ).toArray:=by simp;exact List.take_of_length_le (by simp)
    rw[hg1];refine dQ.nil ?_;simp only[Exit.then,Exit.inBlock];obtain⟨W3,hW3⟩:∃W3,(W.drewN dd).setChan c cap (rest.map dJ).toArray false s (r+1) false=W3:=⟨_,rfl⟩;have hcl:c < (W.drewN dd).heap.size:=(h_.1 (show(W.drewN dd).heap[c]?= _ from hcW)).1;have c3:W3.heap[c]?= some (.chan cap (rest.map dJ).toArray false s (r+1) false):=by rw[<-hW3];exact pR hcl _ _ _ _ _ _
    have k3:aB (·= c) (W.drewN dd) W3:=by rw[<-hW3];exact(aB.refl _ _).setChan (.inl (by rfl)) _ _ _ _ _ _
    rw[hW3];have hLL:=HLL.out;have hMM:=HMM.out;refine⟨L.length - (k+1),by omega,k+1,_,rfl,by omega,.inr (by omega),aMs _ _ _ _ _ _ _ _ _ _ _ _ _ _ _ _ _ _ _ _ _,?_,(HKW.out.drewN dd).trans k3⟩;rw[hrest];exact⟨s,r+1,c3⟩
   ·have HKW:=aC hkW
    have HCW:=aC hcW;have hdc:decide ((n:Int) - (d:Int)+1<=no)=false:=decide_eq_false hle;have HLE:Hid (¬(n:Int) - (d:Int)+1<=no):=hle;clear hcW hkW hch hqW;refine bN.step (fun K hK=> ?_)
    go_wp2_with (go_at_call 198;refine HF.out.mono ?_;rintro e W1 ⟨rfl,dd,rfl⟩)
    refine bN.cond (t:=false) (by first|rfl|(show Value.bool (decide _)=_;rw[hdc])) ?_;refine bN.of_wp (wp_exit ?_);simp only[Exit.then,Exit.inBlock,if_true]
    go_end0
    have hLL:=HLL.out;have hlee:=HLE.out;have e:(no - ((n:Int) - (L.length:Int))).toNat=k:=by omega
    refine⟨_,rfl,?_,HKW.out.drewN _⟩;rw[e];obtain⟨s',r',h'⟩:=HCW.out;exact⟨s',r',h'⟩
end Go.Proofs.YtfanaanofjhlkaaGreatDoor
