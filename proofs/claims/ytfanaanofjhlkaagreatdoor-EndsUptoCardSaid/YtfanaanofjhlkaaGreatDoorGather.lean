import Derived.Test.YtfanaanofjhlkaaGreatDoorXWorkers
import Derived.Deep.RegionHeld3
import Derived.Test.YtfanaanofjhlkaaGreatDoorTasks
namespace Go.Proofs.YtfanaanofjhlkaaGreatDoor
open Go Go.RowKit Go.Maps Go.WideMaps
theorem below_alloc{A W:World}(h:Below A.heap.size A W)(o:Obj):Below A.heap.size A (W.alloc o):=h.alloc h.size o
theorem xok_new{n:Nat}{room mode kind arg:Int}{ks:List KindS}{W:World}{base B M lo hi lo2 hi2 g:Nat}{kv:Value}{part:Nat->Nat}{xs:List XW}(hn:0 < n)(hbox:BoxAt W B 105 #[kv,.int .i64 kind,.int .i64 arg,.int .i64 mode,.slice (some ⟨g,0,none⟩) n n,.slice none 0 0,.map (some M),.int .i64 0,.int .i64 0,.int .i64 0,.int .i64 0,.bool false,.int .i64 0,.int .i64 0,.bool false,.bool false,.bool false])(hK:KindsAt (fun b=>lo<=b/\b < hi) W kv ks)
  {D:DataW Unit} (hM:MapIs W M D) (hD:Keeps D []) (hpt:∀b,part b≠0->lo2<=b/\b < hi2/\7<=part b) (hrow:RowIn (fun b=>part b=7) 119 8 xwEnc W (.slice (some ⟨g,0,none⟩) n n) xs) (hxl:xs.length=n) (hn5:n<=5) (htl:∀i x,xs[i]?= some x->XBorn part W n room mode i x (if i=0 then [⟨⟨#[]⟩,kind,arg⟩]else []) (decide (i=0)))
  (h1:base<=lo) (h2:hi<=lo2) (h3:M < lo\/(hi<=M/\M < lo2)\/hi2<=M) (h4:base<=M) (h5:hi2<=B) (h6:M≠B) (h7:lo<=lo2) (h8:lo2<=hi2):XOK (fun b=>base<=b) W B (newS n room mode ks kind arg):=by
 have hpp:∀g',part g'≠0->(fun b=>if b=B then 1 else if b=M then 3 else if lo<=b/\b < hi then 6 else part b) g'=part g':=fun g' hne=>by
  have h:=hpt g' hne
  exact(if_neg (by omega)).trans ((if_neg (by omega)).trans (if_neg (by omega)))
 refine⟨fun b=>if b=B then 1 else if b=M then 3 else if lo<=b/\b < hi then 6 else part b,fun b hb=> ?_,⟨kv,_,_,M,xs,hbox,if_pos rfl,hK.mono' (fun b hb=> ?_),⟨hrow.1,fun g' e=> ?_⟩,by rw[hxl];simp[newS];omega,fun i x y hx hy=> ?_,by simp[newS];omega,fun ls hls=> ?_,by simp[newS];omega,fun i x ls hx hl=> ?_,fun i x hx=> ?_,RowIn.nil _ _ _ _ _,⟨D,hM,(if_neg h6).trans (if_pos rfl),hD⟩,fun i x y hx hy=> ?_⟩⟩
 ·dsimp only at hb
  by_cases e1:b=B
  ·omega
  ·rw[if_neg e1]at hb
   by_cases e2:b=M
   ·omega
   ·rw[if_neg e2]at hb
    by_cases e3:lo<=b/\b < hi
    ·omega
    ·rw[if_neg e3]at hb
     have:=hpt b hb
     omega
 ·exact(if_neg (by omega)).trans ((if_neg (by omega)).trans (if_pos hb))
 ·have:=hrow.2 g' e
  exact(hpp g' (by omega)).trans this
 ·have q:=htl i x hx
  have hy':y.tasks=(if i=0 then [⟨⟨#[]⟩,kind,arg⟩]else [])/\y.asked=false/\y.sent=0/\y.came=0/\y.black=false:=by
   cases i with
   |zero=>simp[newS]at hy;subst hy;exact⟨rfl,rfl,rfl,rfl,rfl⟩
   |succ i=>
    have:(List.replicate ((n:Int).toNat - 1) worker0)[i]?= some y:=by simpa[newS]using hy
    rw[replicate_get this]
    exact⟨rfl,rfl,rfl,rfl,rfl⟩
  rw[hy'.1]
  exact⟨⟨q.notes.asked.trans hy'.2.1.symm,q.notes.sent.trans hy'.2.2.1.symm,q.notes.came.trans hy'.2.2.2.1.symm,q.notes.black.trans hy'.2.2.2.2.symm⟩,q.tasks.kept (Kept.refl (fun _=>False) W) (fun g' _ e=>⟨fun h=>h,(hpp g' (by omega)).trans e⟩)⟩
 ·have:ls=List.replicate n link0:=by
   have:=List.eq_of_mem_replicate hls
   simpa using this
  rw[this]
  simp[newS];omega
 ·have hl':ls=List.replicate n link0:=by
   have:(List.replicate (n:Int).toNat (List.replicate (n:Int).toNat link0))[i]?= some ls:=hl
   rw[replicate_get this];simp
  rw[hl']
  exact(htl i x hx).out.kept (Kept.refl (fun _=>False) W) (fun g' _ e=>⟨fun h=>h,hpp g' (by omega)⟩)
 ·have hl':(newS n room mode ks kind arg).links=List.replicate n (List.replicate n link0):=by simp[newS]
  rw[hl']
  exact(htl i x hx).ins.kept (Kept.refl (fun _=>False) W) (fun g' _ e=>⟨fun h=>h,hpp g' (by omega)⟩)
 ·have q:=(htl i x hx).tok.kept (X':=fun g'=>(fun b=>if b=B then 1 else if b=M then 3 else if lo<=b/\b < hi then 6 else part b) g'=20+i) (Kept.refl (fun _=>False) W) (fun g' _ e=>⟨fun h=>h,(hpp g' (by omega)).trans e⟩)
  have hy':y.has=decide (i=0)/\y.token=worker0.token:=by
   cases i with
   |zero=>simp[newS]at hy;subst hy;exact⟨rfl,rfl⟩
   |succ i=>
    have:(List.replicate ((n:Int).toNat - 1) worker0)[i]?= some y:=by simpa[newS]using hy
    rw[replicate_get this]
    exact⟨by simp[worker0],rfl⟩
  have e:(i==0&&(newS n room mode ks kind arg).around)=false:=by simp[newS]
  rw[e]
  exact q.like hy'.1 hy'.2
theorem xfin{n:Nat}{room mode kind arg:Int}{ks:List KindS}{W W3 W5:World}{base B M lo lo2 g:Nat}{kv:Value}{part:Nat->Nat}{xs:List XW}{D:DataW Unit}(hn:0 < n)(hbox:BoxAt W B 105 #[kv,.int .i64 kind,.int .i64 arg,.int .i64 mode,.slice (some ⟨g,0,none⟩) n n,.slice none 0 0,.map (some M),.int .i64 0,.int .i64 0,.int .i64 0,.int .i64 0,.bool false,.int .i64 0,.int .i64 0,.bool false,.bool false,.bool false])(hK:KindsAt (fun b=>lo<=b/\b < W3.heap.size) W3 kv ks)(h3:Below W3.heap.size W3 W)
  (hM:MapIs W M D) (hD:Keeps D []) (hpt:∀b,part b≠0->lo2<=b/\b < W5.heap.size/\7<=part b) (hrow:RowIn (fun b=>part b=7) 119 8 xwEnc W5 (.slice (some ⟨g,0,none⟩) n n) xs) (hxl:xs.length=n) (hn5:n<=5) (htl:∀i x,xs[i]?= some x->XBorn part W5 n room mode i x (if i=0 then [⟨⟨#[]⟩,kind,arg⟩]else []) (decide (i=0))) (h5:Below W5.heap.size W5 W)
  (g1:base<=lo) (g2:W3.heap.size<=lo2) (g3:M < lo\/(W3.heap.size<=M/\M < lo2)\/W5.heap.size<=M) (g4:base<=M) (g5:W5.heap.size<=B) (g6:M≠B) (g7:lo<=lo2) (g8:lo2<=W5.heap.size):XOK (fun b=>base<=b) W B (newS n room mode ks kind arg):=by
 have k5:Kept (fun b=>W5.heap.size<=b) W5 W:=Kept.of_below h5 (fun _ _ h=>h)
 exact xok_new hn hbox (hK.kept (Kept.of_below h3 (X:=fun b=>W3.heap.size<=b) (fun _ _ h=>h)) (fun b h1 h2=>by omega)) hM hD hpt (hrow.kept k5 (fun g hg h=>⟨by omega,h⟩)) hxl hn5 (fun i x hx=>(htl i x hx).kept k5 (fun g hg h=>⟨by omega,rfl⟩)) g1 g2 g3 g4 g5 g6 g7 g8
theorem map_made(W:World):∃D,MapIs (W.alloc (Obj.map #[] 0)) W.heap.size D/\Keeps D []:=⟨_,mapIs_of (World.ownsMap_made W Tryz.prog 9 (plainElem Tryz.prog 3)),Keeps.nil⟩
set_option maxHeartbeats 4000000 in
set_option maxRecDepth 100000 in
theorem x_new_good(a:Option Addr)(cap:Nat)(workers room mode kind arg:Int)(ks:List KindS)(w:World)(hk:KindsAt (fun _=>True) w (.slice a ks.length cap) ks)(hc:cfgB workers room mode=true)(hu:(unfoldS ks kind arg).1=0) :
  Calls Tryz.prog 21 #[.agg #[.int .i64 workers,.int .i64 room,.int .i64 mode],.agg #[.slice a ks.length cap,.int .i64 kind,.int .i64 arg]] w fun e w'=>∃B,e= .returned (.tuple #[.pointer (some ⟨B,0,none⟩),.int .i64 0])/\XOK (fun b=>w.heap.size<=b) w' B (newS workers room mode ks kind arg)/\Below w.heap.size w w':=by
 have hprog:progB ks kind arg=true:=by
  by_cases h:progB ks kind arg=true
  ·exact h
  ·simp[unfoldS,h]at hu
 have hlen5:ks.length<=5:=by simp[progB,rangeB]at hprog;omega
 have HL2:Hid (∀k∈ks,k.kids.length<=9223372036854775806):=fun k hk=>by
  simp[progB]at hprog
  have:=hprog.1.1.2 k hk
  simp[kindB]at this
  have:=this.1.2
  omega
 obtain⟨V,hV⟩:∃V,(w.alloc (Obj.cells #[.int .i64 workers,.int .i64 room,.int .i64 mode] 38)).alloc (Obj.cells #[.slice a ks.length cap,.int .i64 kind,.int .i64 arg] 41)=V:=⟨_,rfl⟩
 have bC:BoxAt V w.heap.size 38 #[.int .i64 workers,.int .i64 room,.int .i64 mode]:=by rw[<-hV];exact(BoxAt.new w _ _).alloc _
 have bP:BoxAt V (w.heap.size+1) 41 #[.slice a ks.length cap,.int .i64 kind,.int .i64 arg]:=by
  rw[<-hV];have:=BoxAt.new (w.alloc (Obj.cells #[.int .i64 workers,.int .i64 room,.int .i64 mode] 38)) 41 #[.slice a ks.length cap,.int .i64 kind,.int .i64 arg]
  rw[World.size_alloc]at this;exact this
 have hbV:Below w.heap.size w V:=by rw[<-hV];exact((Below.refl _ _).alloc (Nat.le_refl _) _).alloc (by simp) _
 have sV:w.heap.size+2<=V.heap.size:=by rw[<-hV];simp
 have h2:2<=workers:=by simp[cfgB]at hc;omega
 have h5:workers<=5:=by simp[cfgB]at hc;omega
 obtain⟨n,rfl⟩:∃n:Nat,workers=(n:Int):=⟨workers.toNat,by omega⟩
 have c0:=bC.cell (o:=0) rfl
 have c1:=bC.cell (o:=1) rfl
 have c2:=bC.cell (o:=2) rfl
 have HBP:=hid_of bP
 have HBC:=hid_of bC
 have HKV:Hid (KindsAt (fun b=>b < w.heap.size) V (.slice a ks.length cap) ks):=(hk.below.kept (Kept.of_below hbV (X:=fun b=>w.heap.size<=b) (fun _ _ h=>h)) (fun b h1 h2=>by omega)).mono' (fun _ h=>h.2)
 have HBV:Hid (Below w.heap.size w V):=hbV
 have HCF:=hid_of (isConfig_calls n room mode V)
 rw[hc]at HCF
 have hmm:= @run_makeMap Tryz.prog
 have HU0:Hid ((unfoldS ks kind arg).1=0):=hu
 clear bC bP hbV hk hc hu
 go_enter Tryz.func21,Tryz.ntmps21
 go_upto_region 3 with(go_at_call 47;refine HCF.out.mono ?_;rintro e w1 ⟨rfl,hb1⟩)
 have hP1:=HBP.out.below hb1 HBP.out.lt
 have p0:=hP1.cell (o:=0) rfl
 have p1:=hP1.cell (o:=1) rfl
 have p2:=hP1.cell (o:=2) rfl
 have HU:=hid_of (unfold_calls a cap kind arg ks w1 ((HKV.out.kept (Kept.of_below hb1 (X:=fun b=>V.heap.size<=b) (fun _ _ h=>h)) (fun b h1 h2=>by omega)).mono' (fun _ _=>trivial)) (by omega) HL2.out)
 rw[HU0.out]at HU
 have HB1:=hid_of hb1
 have s1:=hb1.size
 clear hP1 c0 c1 c2 hV
 go_upto_region 6 with(go_at_call 35;refine HU.out.mono ?_;rintro e w2 ⟨v2,rfl,-,hb2⟩)
 have s2:=hb2.size
 have hbV2:Below V.heap.size V w2:=HB1.out.trans (hb2.mono s1)
 have HP2:=hid_of (HBP.out.below hbV2 HBP.out.lt)
 have HC2:=hid_of (HBC.out.below hbV2 HBC.out.lt)
 have HK2:Hid (KindsAt (fun b=>b < w.heap.size) w2 (.slice a ks.length cap) ks):=HKV.out.kept (Kept.of_below hbV2 (X:=fun b=>V.heap.size<=b) (fun _ _ h=>h)) (fun b h1 h2=>by omega)
 have HBw2:Hid (Below w.heap.size w w2):=HBV.out.trans (hbV2.mono (by omega))
 have HCP:Hid (∀U,Below w2.heap.size w2 U->Calls Tryz.prog 48 #[.agg #[.slice a ks.length cap,.int .i64 kind,.int .i64 arg]] U fun e w'=>∃v,e= .returned v/\∃a' c',v= .agg #[.slice a' ks.length c',.int .i64 kind,.int .i64 arg]/\KindsAt (fun b=>U.heap.size<=b/\b < w'.heap.size) w' (.slice a' ks.length c') ks/\Below U.heap.size U w'/\Below w2.heap.size w2 w'):=fun U hU=>by
  refine(copy_calls a cap kind arg ks U ((HK2.out.kept (Kept.of_below hU (X:=fun b=>w2.heap.size<=b) (fun _ _ h=>h)) (fun b h1 h2=>by have:=HBw2.out.size;omega)).mono' (fun _ _=>trivial)) hprog).mono ?_
  rintro e w' ⟨a',c',rfl,h1,h2⟩
  exact⟨_,rfl,a',c',rfl,h1.below,h2,hU.trans (h2.mono hU.size)⟩
 have HFI:Hid (∀U,Below w2.heap.size w2 U->Calls Tryz.prog 50 #[.agg #[.slice a ks.length cap,.int .i64 kind,.int .i64 arg]] U fun e w'=>∃v,e= .returned v/\v= .agg #[.string ⟨#[]⟩,.int .i64 kind,.int .i64 arg]/\Below U.heap.size U w'/\Below w2.heap.size w2 w'):=fun U hU=>by
  refine(first_calls a ks.length cap kind arg U).mono ?_
  rintro e w' ⟨rfl,h1⟩
  exact⟨_,rfl,rfl,h1,hU.trans (h1.mono hU.size)⟩
 have HNW:Hid (∀U,Below w2.heap.size w2 U->Calls Tryz.prog 49 #[.agg #[.int .i64 n,.int .i64 room,.int .i64 mode],.agg #[.string ⟨#[]⟩,.int .i64 kind,.int .i64 arg]] U fun e w'=>∃v,e= .returned v/\∃(part:Nat->Nat) (g:Nat) (xs:List XW),v= .slice (some ⟨g,0,none⟩) n n/\(∀b,part b≠0->U.heap.size<=b/\b < w'.heap.size/\7<=part b)/\
   RowIn (fun b=>part b=7) 119 8 xwEnc w' (.slice (some ⟨g,0,none⟩) n n) xs/\xs.length=n/\(∀i x,xs[i]?= some x->XBorn part w' n room mode i x (if i=0 then [⟨⟨#[]⟩,kind,arg⟩]else []) (decide (i=0)))/\Below U.heap.size U w'/\Below w2.heap.size w2 w'):=fun U hU=>by
  refine(newWorkers_calls n room mode ⟨⟨#[]⟩,kind,arg⟩ U (by omega) (by omega)).mono ?_
  rintro e w' ⟨part,g,xs,rfl,h1,h2,h3,h4,h5⟩
  exact⟨_,rfl,part,g,xs,rfl,h1,h2,h3,h4,h5,hU.trans (h5.mono hU.size)⟩
 clear p0 p1 p2 hb1 hb2 hbV2
 have HST:Hid (∀U,Below w2.heap.size w2 U->Below w2.heap.size w2 U/\U.cell? ⟨w.heap.size+1,0,none⟩=some (.slice a ks.length cap)/\U.cell? ⟨w.heap.size+1,1,none⟩=some (.int .i64 kind)/\U.cell? ⟨w.heap.size+1,2,none⟩=some (.int .i64 arg)/\U.cell? ⟨w.heap.size,0,none⟩=some (.int .i64 n)/\U.cell? ⟨w.heap.size,1,none⟩=some (.int .i64 room)/\U.cell? ⟨w.heap.size,2,none⟩=some (.int .i64 mode)):=fun U hU=>by
  have hP:=HP2.out.below hU HP2.out.lt
  have hC:=HC2.out.below hU HC2.out.lt
  exact⟨hU,hP.cell (o:=0) rfl,hP.cell (o:=1) rfl,hP.cell (o:=2) rfl,hC.cell (o:=0) rfl,hC.cell (o:=1) rfl,hC.cell (o:=2) rfl⟩
 have p0:=HP2.out.cell (o:=0) rfl
 have p1:=HP2.out.cell (o:=1) rfl
 have p2:=HP2.out.cell (o:=2) rfl
 have c0:=HC2.out.cell (o:=0) rfl
 have c1:=HC2.out.cell (o:=1) rfl
 have c2:=HC2.out.cell (o:=2) rfl
 go_region_held3 (fun U=>Below w2.heap.size w2 U/\U.cell? ⟨w.heap.size+1,0,none⟩=some (.slice a ks.length cap)/\U.cell? ⟨w.heap.size+1,1,none⟩=some (.int .i64 kind)/\U.cell? ⟨w.heap.size+1,2,none⟩=some (.int .i64 arg)/\U.cell? ⟨w.heap.size,0,none⟩=some (.int .i64 n)/\U.cell? ⟨w.heap.size,1,none⟩=some (.int .i64 room)/\U.cell? ⟨w.heap.size,2,none⟩=some (.int .i64 mode))
  (first|assumption|(exact HST.out _ (by assumption))|(exact HST.out _ (Below.refl _ _))|(exact HST.out _ (Below.refl _ _).drew)|(exact HST.out _ (below_alloc (by assumption) _))|(exact HST.out _ (below_alloc (And.left (by assumption)) _))|(exact HST.out _ (below_alloc (below_alloc (And.left (by assumption)) _) _)))
  (first
  |(go_at_call 48;refine(HCP.out _ (by first|assumption|exact Below.refl _ _|exact(Below.refl _ _).drew|exact And.left (by assumption))).mono ?_;rintro e w3 ⟨v3,rfl,a3,c3,rfl,hK3,hU3,hb3⟩)
  |(go_at_call 50;refine(HFI.out _ (by first|assumption|exact And.left (by assumption))).mono ?_;rintro e w4 ⟨v4,rfl,rfl,hU4,hb4⟩)
  |(go_at_call 49;refine(HNW.out _ (by first|assumption|exact And.left (by assumption))).mono ?_;rintro e w5 ⟨v5,rfl,part,g5,xs,rfl,hpt5,hrow5,hxl5,htl5,hU5,hb5⟩))
 ·go_wp2_with fail
  go_ret2
  obtain⟨D,hM,hD⟩:=map_made w5
  have e2:=HBw2.out.size
  have e3:w2.heap.size<=w3.heap.size:=hU3.size
  have e4:=hU4.size
  have e5:=hU5.size
  have hA:=below_alloc (Below.refl w5.heap.size w5) (Obj.map #[] 0)
  refine⟨_,rfl,xfin (M:=w5.heap.size) (lo:=w2.heap.size) (by omega) (boxAt_at _ _ _ _ (by simp)) hK3 ?_ (hM.below ((Below.refl _ _).alloc (Nat.le_refl _) _) (by simp)) hD hpt5 hrow5 hxl5 (by omega) htl5 (below_alloc hA _) (by omega) e4 (.inr (.inr (Nat.le_refl _))) (by omega) (by omega) (by omega) (by omega) e5,?_⟩
  ·exact((hU4.trans (hU5.mono e4)).alloc (by omega) _).alloc (by simp;omega) _
  ·exact HBw2.out.trans (((hb5.alloc hb5.size _).alloc (by simp;omega) _).mono HBw2.out.size)
 ·go_wp2_with fail
  go_ret2
  obtain⟨D,hM,hD⟩:=map_made w4
  have e2:=HBw2.out.size
  have e3:w2.heap.size<=w3.heap.size:=hU3.size
  have e4:=hU4.size
  have e5:w4.heap.size+1<=w5.heap.size:=by have:=hU5.size;simpa using this
  have hA:Below w4.heap.size w4 w5:=(below_alloc (Below.refl w4.heap.size w4) (Obj.map #[] 0)).trans (hU5.mono (by simp))
  have hM5:MapIs w5 w4.heap.size D:=hM.below hU5 (by simp)
  refine⟨_,rfl,xfin (M:=w4.heap.size) (lo:=w2.heap.size) (lo2:=w4.heap.size+1) (by omega) (boxAt_at _ _ _ _ rfl) hK3 ?_ (hM5.below ((Below.refl _ _).alloc (Nat.le_refl _) _) hM5.lt) hD (fun b hb=>by have:=hpt5 b hb;simpa using this) hrow5 hxl5 (by omega) htl5 (below_alloc (Below.refl _ _) _) (by omega) (by omega) (.inr (.inl ⟨by omega,by omega⟩)) (by omega) (Nat.le_refl _) (by omega) (by omega) e5,?_⟩
  ·exact(hU4.trans (hA.mono e4)).alloc (by omega) _
  ·exact HBw2.out.trans ((hb5.alloc hb5.size _).mono HBw2.out.size)
 ·go_wp2_with fail
  go_ret2
  obtain⟨D,hM,hD⟩:=map_made w3
  have e2:=HBw2.out.size
  have e3:w2.heap.size<=w3.heap.size:=hU3.size
  have e4:w3.heap.size+1<=w4.heap.size:=by have:=hU4.size;simpa using this
  have e5:=hU5.size
  have hA:Below w3.heap.size w3 w4:=(below_alloc (Below.refl w3.heap.size w3) (Obj.map #[] 0)).trans (hU4.mono (by simp))
  have hM4:MapIs w4 w3.heap.size D:=hM.below hU4 (by simp)
  have hM5:MapIs w5 w3.heap.size D:=hM4.below hU5 hM4.lt
  refine⟨_,rfl,xfin (M:=w3.heap.size) (lo:=w2.heap.size) (lo2:=w4.heap.size) (by omega) (boxAt_at _ _ _ _ rfl) hK3 ?_ (hM5.below ((Below.refl _ _).alloc (Nat.le_refl _) _) hM5.lt) hD hpt5 hrow5 hxl5 (by omega) htl5 (below_alloc (Below.refl _ _) _) (by omega) (by omega) (.inr (.inl ⟨by omega,by omega⟩)) (by omega) (Nat.le_refl _) (by omega) (by omega) e5,?_⟩
  ·exact(hA.trans (hU5.mono (by omega))).alloc (by omega) _
  ·exact HBw2.out.trans ((hb5.alloc hb5.size _).mono HBw2.out.size)
 ·go_wp2_with fail
  go_ret2
  obtain⟨D,hM,hD⟩:=map_made w2
  have e2:=HBw2.out.size
  have e3:w2.heap.size+1<=w3.heap.size:=by have:=hU3.size;have h9:(w2.alloc (Obj.map #[] 0)).heap.size<=w3.heap.size:=this;simpa using h9
  have e4:=hU4.size
  have e5:=hU5.size
  have hM3:MapIs w3 w2.heap.size D:=by
   have hMd:MapIs (w2.alloc (Obj.map #[] 0)).drew w2.heap.size D:=hM
   exact hMd.below hU3 hMd.lt
  have hM4:MapIs w4 w2.heap.size D:=hM3.below hU4 hM3.lt
  have hM5:MapIs w5 w2.heap.size D:=hM4.below hU5 hM4.lt
  have hK3':KindsAt (fun b=>w2.heap.size+1<=b/\b < w3.heap.size) w3 (.slice a3 ks.length c3) ks:=hK3.mono' (fun b hb=>⟨by have h9:(w2.alloc (Obj.map #[] 0)).heap.size<=b:=hb.1;simpa using h9,hb.2⟩)
  refine⟨_,rfl,xfin (M:=w2.heap.size) (lo:=w2.heap.size+1) (lo2:=w4.heap.size) (by omega) (boxAt_at _ _ _ _ rfl) hK3' ?_ (hM5.below ((Below.refl _ _).alloc (Nat.le_refl _) _) hM5.lt) hD hpt5 hrow5 hxl5 (by omega) htl5 (below_alloc (Below.refl _ _) _) (by omega) (by omega) (.inl (by omega)) (by omega) (Nat.le_refl _) (by omega) (by omega) e5,?_⟩
  ·exact(hU4.trans (hU5.mono (by omega))).alloc (by omega) _
  ·exact HBw2.out.trans ((hb5.alloc hb5.size _).mono HBw2.out.size)
end Go.Proofs.YtfanaanofjhlkaaGreatDoor
namespace Go.Proofs.YtfanaanofjhlkaaGreatDoor
open Go Go.RowKit Go.Shelf
def SeqY{α:Type}(F:Fence)(n:Nat)(P:Program)(g:Nat)(lb:Array Value)(encs:α->Array Value)(X:Nat->Prop)(L:List α)(W:World):Prop:=
 ∀(l:Nat) (J:List α->World->Prop),(∀s A B,J s A->Below A.heap.size A B->J s B)->
  (∀pre x W1,J pre W1->W.heap.size<=W1.heap.size->pre++ [x] <+: L->YieldAt F (n - 1) P l (encs x) W1 fun e W'=>e= .returned (.bool true)/\J (pre++ [x]) W'/\Kept X W1 W')->
  J [] W->
  CallsIn F n P g (#[.func (.yield l) #[] #[]]++lb) W fun e W'=>(∃v,e= .returned v)/\J L W'
def roundOn{α:Type}(X:Nat->Prop)(I:List α->World->Prop)(xs:List α)(W:World):Exit->Act->World->Prop
 | .normal,_,W'=>Kept X W W'/\I xs W'
 |_,_,_=>False
section
variable {F:Fence} {n:Nat} {P:Program}
theorem range_lawY{α:Type}{g:Operand}{ps:Array Tmp}{assign body:Code}{Q:Exit->Act->World->Prop}{a:Act}{w:World}
  (hro:F.round=none) (h1:F.depth.isSome=true->1<=n) {gf:Nat} {lb:Array Value} (hg:a.eval g= .func (.func gf) #[] lb) (hFg:F.fn gf) (eg:∀args w,(callFunc gf args).run P w= .ok (.enter gf args) w)
  {encs:α->Array Value} {L:List α} (X:Nat->Prop) (hX:∀k,X k->k≠w.heap.size/\k≠w.heap.size+1)
  (hseq:∀W,Below w.heap.size w W->W.heap.size=w.heap.size+2->SeqY F (n - 1) P gf lb encs (fun k=>X k\/k=w.heap.size+1) L W)
  (hps:∀x,(encs x).size=ps.size)
  (I:List α->World->Prop) (hI:∀s A B,I s A->Kept (·= w.heap.size+1) A B->I s B) (h0:I [] w)
  (Ax:List α->α->Act->World->Prop) (hAx:∀pre x a' A B,Ax pre x a' A->Kept (·= w.heap.size+1) A B->Ax pre x a' B)
  (hassign:∀(l:Nat) (pre:List α) (x:α) (W:World) (K:Act->World->Prop),pre++ [x] <+: L->I pre W->w.heap.size+2<=W.heap.size->(∀a' W',Kept X W W'->I pre W'->Ax pre x a' W'->K a' W')->
   assign.wpIn (F.inRound l) (n - 1 - 1) P (Exit.then K (fun _ _ _=>False)) {tmps:=(ps.zip (encs x)).foldl (fun t (p,v)=>t.setIfInBounds p v) a.tmps,defers:=[]} W)
  (hbody:∀(l:Nat) (pre:List α) (x:α) (a':Act) (W:World),pre++ [x] <+: L->I pre W->Ax pre x a' W->w.heap.size+2<=W.heap.size->body.wpIn (F.inRound l) (n - 1 - 1) P (roundOn X I (pre++ [x]) W) a' W)
  (hdone:∀(D:Nat) (W:World),w.heap.size<=D->I L W->W.heap[D]?= some (.deferred (some []))->Q .normal {a with defers:={target:= .collected D,args:=#[]} :: a.defers} W) :
  (Code.rangeFunc g ps assign body).wpIn F n P Q a w:=by
 refine wpIn_rangeFunc fun fn hfn=> ?_
 rw[hro]
 obtain⟨rec,hrec⟩:∃rec:LoopState->Option Code->Loop,rec=fun st pe=>{state:=st,pending:=pe,fn,tmps:=a.tmps,params:=ps,assign,body,defers:=w.heap.size}:=⟨_,rfl⟩
 obtain⟨V,hV⟩:∃V,(w.alloc (.deferred (some []))).alloc (.loop (rec .ready none))=V:=⟨_,rfl⟩
 have vsize:V.heap.size=w.heap.size+2:=by rw[<-hV];simp
 have vbelow:Below w.heap.size w V:=by
  rw[<-hV];exact((Below.refl _ w).alloc (Nat.le_refl _) _).alloc (by simp) _
 have vloop:V.heap[w.heap.size+1]?= some (.loop (rec .ready none)):=by
  have h:=World.alloc_heap_new (w.alloc (.deferred (some []))) (.loop (rec .ready none))
  rw[World.size_alloc]at h;rw[<-hV];exact h
 have vdef:V.heap[w.heap.size]?= some (.deferred (some [])):=by
  rw[<-hV];exact(Below.heap_alloc _ _ _ (by simp)).trans (World.alloc_heap_new w _)
 refine⟨w.heap.size+1,[{target:= .collected w.heap.size,args:=#[]}],V,{target:= .fn (.func gf) lb,args:=#[.func (.yield (w.heap.size+1)) #[] #[]]},V,gf,
  #[.func (.yield (w.heap.size+1)) #[] #[]]++lb,V,?_,?_,?_,?_,h1,?_⟩
 ·rw[<-hV,hrec];exact run_enterLoop_outer _ _ _ _ _
 ·simp only[resolve,hg];simp[go_sem]
 ·intro f' hf';simp[Target.leads]at hf';subst hf';exact hFg
 ·simp[invoke,go_sem,eg]
 have vkept:Kept (·= w.heap.size+1) w V:=Kept.of_below vbelow (fun k h1 h2=>by omega)
 refine(hseq V vbelow vsize (w.heap.size+1)
   (fun pre W=>I pre W/\W.heap[w.heap.size+1]?= some (.loop (rec .ready none))/\W.heap[w.heap.size]?= some (.deferred (some [])))
   (fun s A B hs hb=>⟨hI s A B hs.1 (Kept.of_below hb (fun k h1 h2=>by omega)),(hb.block _ (Array.getElem?_eq_some_iff.1 hs.2.1).1).trans hs.2.1,(hb.block _ (Array.getElem?_eq_some_iff.1 hs.2.2).1).trans hs.2.2⟩)
   ?_ ⟨hI _ _ _ h0 vkept,vloop,vdef⟩).mono ?_
 ·rintro pre x W ⟨hi,hl,hk⟩ hsz hxL
  rw[vsize]at hsz
  have hy:=run_yield (P:=P) (args:=encs x) hl (by rw[hrec];exact hps x)
  rw[hrec]at hy
  refine⟨fn,_,assign,body,hy,roundIn_of_wpIn hfn (hassign _ pre x W _ hxL hi hsz fun a' U kU iU aU=> ?_)⟩
  clear hy
  have n1:¬X (w.heap.size+1):=fun h=>(hX _ h).2 rfl
  have n0:¬X w.heap.size:=fun h=>(hX _ h).1 rfl
  have ul:=kU.heap hl n1
  have uk:=kU.heap hk n0
  have usz:w.heap.size+2<=U.heap.size:=Nat.le_trans hsz kU.size
  refine⟨_,run_beginRound ul (by rw[hrec]),?_⟩
  obtain⟨T,hT⟩:∃T,U.putObj (w.heap.size+1) (.loop {rec .ready none with state:= .busy})=T:=⟨_,rfl⟩
  rw[hT]
  have kT:Kept (·= w.heap.size+1) U T:=by rw[<-hT];exact Kept.putObj _ _ _ rfl
  have tl:T.heap[w.heap.size+1]?= some (.loop {rec .ready none with state:= .busy}):=by rw[<-hT];exact World.putObj_heap_same (by omega)
  have tk:T.heap[w.heap.size]?= some (.deferred (some [])):=kT.heap uk (by omega)
  refine wpIn_mono (hbody _ pre x a' T hxL (hI _ _ _ iU kT) (hAx _ _ _ _ _ aU kT) (Nat.le_trans usz kT.size)) ?_
  rintro e a3 Z hp
  cases e with
  |normal=>
   obtain⟨kZ,hi3⟩:=hp
   have zl:=kZ.heap tl n1
   have zk:=kZ.heap tk n0
   have zr:=run_endRound (P:=P) none zl
   rw[hrec]at zr zl
   refine⟨_,_,zr,rfl,⟨hI _ _ _ hi3 (Kept.putObj _ _ _ rfl),?_,(World.putObj_heap_other (by omega)).trans zk⟩,?_⟩
   ·rw[hrec];exact World.putObj_heap_same (Array.getElem?_eq_some_iff.1 zl).1
   ·exact(((kU.mono (fun k _ h=> .inl h)).trans (kT.mono (fun k _ h=> .inr h))).trans (kZ.mono (fun k _ h=> .inl h))).trans (Kept.putObj _ _ _ (.inr rfl))
  |ret=>exact hp.elim
  |exit id=>exact hp.elim
  |goto t=>exact hp.elim
  |panic ch=>exact hp.elim
  |outgrown=>exact hp.elim
 ·rintro e Z ⟨⟨v,rfl⟩,hi,hl,hk⟩
  have hlt:=(Array.getElem?_eq_some_iff.1 hl).1
  exact⟨none,_,by have:=run_endLoop (P:=P) hl (by rw[hrec];simp);rw[hrec]at this;exact this,hdone _ _ (Nat.le_refl _) (hI _ _ _ hi (Kept.putObj _ _ _ rfl)) ((World.putObj_heap_other (by omega)).trans hk)⟩
end
attribute [local go_sem] Oper.semAt_some
set_option maxHeartbeats 1000000 in
set_option maxRecDepth 100000 in
theorem children1_seqY(n:Nat)(Bp Bt:Nat)(X ok:Nat->Prop)(a:Option Addr)(cap:Nat)(kind arg:Int)(ks:List KindS)(t:TaskS)(L:List TaskS)(hL:children ks t=L)(W:World)
  (hp:BoxAt W Bp 41 #[.slice a ks.length cap,.int .i64 kind,.int .i64 arg]) (ht:BoxAt W Bt 62 #[.string t.id,.int .i64 t.kind,.int .i64 t.arg])
  (hk:KindsAt ok W (.slice a ks.length cap) ks) (hX:∀b,ok b->¬X b) (hXt:¬X Bt)
  (hprog:progB ks kind arg=true) (h0:0<=t.kind) (h1:t.kind < ks.length) (h2:0<=t.arg) (h3:t.arg<=12) (h4:t.id.size<=12) :
  SeqY Fence.wide n Tryz.prog 170 #[.pointer (some ⟨Bp,0,none⟩),.pointer (some ⟨Bt,0,none⟩)] (fun c:TaskS=>#[taskV c]) X L W:=by
 intro l J hJ hY hJ0
 obtain⟨id,k,x⟩:=t
 obtain⟨a',cap',hs,hc⟩:=hk
 simp only[Value.slice.injEq]at hs
 obtain⟨rfl,-,rfl⟩:=hs
 simp only at h0 h1 h2 h3 h4 ht
 obtain⟨j,rfl⟩:=Int.eq_ofNat_of_zero_le h0
 have hj:j < ks.length:=by omega
 obtain⟨c,hcc⟩:∃c,ks[j]?= some c:=⟨_,List.getElem?_eq_getElem hj⟩
 obtain⟨b,o,v,rfl,hok,hbw,c0,c1,c2,hkk⟩:=hc j c hcc
 obtain⟨a',cap',rfl,h'⟩:=hkk
 have hkb:kindB ks.length c=true:=by
  simp[progB]at hprog
  exact hprog.1.1.2 c (List.mem_of_getElem? hcc)
 have hlen:ks.length<=5:=by simp[progB,rangeB]at hprog;omega
 have hkl:c.kids.length<=3:=by simp[kindB]at hkb;exact hkb.1.2
 have hkids:∀d∈c.kids,1<=d.less/\d.less<=9/\0<=d.kind/\d.kind < ks.length:=by
  intro d hd;simp[kindB,kidB,numB,rangeB]at hkb;have:=hkb.2 d hd;omega
 have HC:Hid (L=childrenFrom id x 0 c.kids):=by rw[<-hL];simp[Hid,children,kindAt,hcc]
 have p0:=hp.cell (o:=0) rfl
 have t0:=ht.cell (o:=0) rfl
 have t1:=ht.cell (o:=1) rfl
 have t2:=ht.cell (o:=2) rfl
 clear hprog hkb hc hL
 refine callsIn_of_wp Tryz.func170 rfl trivial ?_ rfl
 simp only[Tryz.ntmps170,List.size_toArray,List.length_cons,List.length_nil,Nat.reduceAdd,Nat.reduceSub,Array.replicate_succ,Array.replicate_zero,List.push_toArray,List.append_toArray,List.nil_append,List.cons_append]
 gi_wp2
 gi_loopw [15] (fun i wr=>∃(m:Nat) (pre:List TaskS),m<=c.kids.length/\i= .int .i64 m/\L=pre++childrenFrom id x m (c.kids.drop m)/\J pre wr/\Kept (fun k=>X k\/W.heap.size<=k) W wr)
  (fun i _=>c.kids.length - (intOf i).toNat)
 case atStart=>exact⟨0,[],Nat.zero_le _,rfl,HC.out,hJ0,Kept.refl _ _⟩
 case round=>
  obtain⟨m,pre,hm,rfl,hpre,hJs,hkw⟩:=hrel
  have HP:Hid (L=pre++childrenFrom id x m (c.kids.drop m)):=hpre
  clear hpre
  have nt:¬(X Bt\/W.heap.size<=Bt):=fun h=>h.elim hXt (fun h=>Nat.not_lt_of_le h ht.lt)
  have u0:=(ht.kept hkw nt).cell (o:=0) rfl
  have u1:=(ht.kept hkw nt).cell (o:=1) rfl
  have u2:=(ht.kept hkw nt).cell (o:=2) rfl
  have hbt:=(ht.kept hkw nt).lt
  by_cases hlt:m < c.kids.length
  ·obtain⟨d,hd⟩:∃d,c.kids[m]?= some d:=⟨_,List.getElem?_eq_getElem hlt⟩
   obtain⟨b',o',rfl,hok',hbw',d0,d1⟩:=h' m d hd
   have nb:¬(X b'\/W.heap.size<=b'):=fun h=>h.elim (hX b' hok') (fun h=>Nat.not_lt_of_le h hbw')
   have f0:=(hkw.cell (p:=⟨b',o'+m*2,none⟩) hbw' nb).trans d0
   have f1:=(hkw.cell (p:=⟨b',o'+m*2+1,none⟩) hbw' nb).trans d1
   obtain⟨hl1,hl9,hk0,hk1⟩:=hkids d (List.mem_of_getElem? hd)
   have v0:=fun o=>cell_alloc o u0
   have v2:=fun o=>cell_alloc o u2
   have HG:Hid (childrenFrom id x m (c.kids.drop m)=if d.less<=x then⟨kidId id m,d.kind,x - d.less⟩ :: childrenFrom id x (m+1) (c.kids.drop (m+1))else childrenFrom id x (m+1) (c.kids.drop (m+1))):=childrenFrom_get id x c.kids m d hd
   by_cases hless:d.less<=x
   ·gi_wp2
    refine wpIn_wide.2 ?_
    have g0:=(BoxAt.new wr 53 #[Value.int IntKind.i64 d.kind,Value.int IntKind.i64 d.less]).cell (o:=0) rfl
    have g1:=(BoxAt.new wr 53 #[Value.int IntKind.i64 d.kind,Value.int IntKind.i64 d.less]).cell (o:=1) rfl
    have z1:¬9223372036854775807 < id.size+1:=by omega
    have z2:id.size < 9223372036854775807:=by omega
    have z3:IntKind.i64.wrap (x - d.less)=x - d.less:=IntWalk.i64_in _ (by omega)
    go_region_held3 (fun w'=>w'.cell? ⟨Bt,0,none⟩=some (.string id)/\w'.cell? ⟨Bt,2,none⟩=some (.int .i64 x)/\w'.cell? ⟨wr.heap.size,0,none⟩=some (.int .i64 d.kind)/\w'.cell? ⟨wr.heap.size,1,none⟩=some (.int .i64 d.less)) (go_keep)
     (first|(go_at_call 171;refine(itoa_calls m (by omega) _).mono ?_;rintro e w' ⟨rfl,rfl⟩))
    all_goals
     obtain⟨V,hV⟩:∃V,((wr.alloc (Obj.cells #[Value.int IntKind.i64 d.kind,Value.int IntKind.i64 d.less] 53)).alloc (Obj.cells #[Value.string (id++{data:=#[digit m]}),Value.int IntKind.i64 d.kind,Value.int IntKind.i64 (x - d.less)] 62)).drew=V:=⟨_,rfl⟩
     have hbV:Below wr.heap.size wr V:=by
      rw[<-hV];exact(((Below.refl _ wr).alloc (Nat.le_refl _) _).alloc (by simp) _).drew
     have bx:BoxAt V (wr.heap.size+1) 62 #[Value.string (id++{data:=#[digit m]}),Value.int IntKind.i64 d.kind,Value.int IntKind.i64 (x - d.less)]:=by
      rw[<-hV];have:=BoxAt.new (wr.alloc (Obj.cells #[Value.int IntKind.i64 d.kind,Value.int IntKind.i64 d.less] 53)) 62 #[Value.string (id++{data:=#[digit m]}),Value.int IntKind.i64 d.kind,Value.int IntKind.i64 (x - d.less)]
      rw[World.size_alloc]at this;exact this
     have y0:=bx.cell (o:=0) rfl
     have y1:=bx.cell (o:=1) rfl
     have y2:=bx.cell (o:=2) rfl
     rw[hV]
     clear hV
     obtain⟨q,hq⟩:∃q:TaskS,q=⟨kidId id m,d.kind,x - d.less⟩:=⟨_,rfl⟩
     have hP2:Hid (L=(pre++ [q])++childrenFrom id x (m+1) (c.kids.drop (m+1))):=by
      refine HP.out.trans ?_
      rw[HG.out,if_pos hless];simp[hq]
     obtain⟨fn,tmps,assign,body,hy,hR⟩:=hY pre q V (hJ _ _ _ hJs hbV) (Nat.le_trans hkw.size hbV.size) ⟨_,hP2.out.symm⟩
     rw[hq]at hy
     clear hq
     dsimp only[taskV,kidId]at hy
     gi_wp2
     refine⟨fun h=>(by cases h),?_⟩
     refine hR.mono ?_
     rintro e W3 ⟨rfl,hJ3,hk3⟩
     ·gi_wp2
      go_roundw
      case rel=>exact⟨m+1,_,by omega,by go_num,hP2.out,hJ3,(hkw.trans (Kept.of_below hbV (fun k _ h=> .inr (Nat.le_trans hkw.size h)))).trans (hk3.mono (fun k _ h=> .inl h))⟩
      case measure=>simp[intOf];omega
   ·have hP2:Hid (L=pre++childrenFrom id x (m+1) (c.kids.drop (m+1))):=by
     refine HP.out.trans ?_
     rw[HG.out,if_neg hless]
    gi_wp2
    go_roundw
    case rel=>exact⟨m+1,pre,by omega,by go_num,hP2.out,hJ _ _ _ hJs ((Below.refl _ wr).alloc (Nat.le_refl _) _),hkw.trans (Kept.alloc _ _ _)⟩
    case measure=>simp[intOf];omega
  ·have hP2:Hid (L=pre):=by
    refine HP.out.trans ?_
    rw[List.drop_eq_nil_of_le (by omega)];simp[childrenFrom]
   gi_wp2
   go_end0
   exact⟨⟨_,rfl⟩,by rw[hP2.out];exact hJs⟩
set_option maxHeartbeats 1000000 in
set_option maxRecDepth 100000 in
theorem values1_seqY(n:Nat)(Bs:Nat)(X:Nat->Prop)(v:Value)(l0:List TaskS)(W:World)(hs:BoxAt W Bs 58 #[v])(hv:ListAt 3 taskEnc W v l0)(hXv:∀g o m c,v= .slice (some ⟨g,o,none⟩) m c->0 < m->¬X g)(hl:l0.length<=100000000) :
  SeqY Fence.wide n Tryz.prog 173 #[.pointer (some ⟨Bs,0,none⟩)] (fun c:TaskS=>#[taskV c]) X l0 W:=by
 intro l J hJ hY hJ0
 obtain⟨a,cap,rfl,hc⟩:=hv
 have s0:=hs.cell (o:=0) rfl
 have HC:=hid_of hc
 have HXV:=hid_of hXv
 clear hc hXv
 refine callsIn_of_wp Tryz.func173 rfl trivial ?_ rfl
 simp only[Tryz.ntmps173,List.size_toArray,List.length_cons,List.length_nil,Nat.reduceAdd,Nat.reduceSub,Array.replicate_succ,Array.replicate_zero,List.push_toArray,List.append_toArray,List.nil_append,List.cons_append]
 gi_wp2
 gi_loopw [7] (fun i wr=>∃m:Nat,m<=l0.length/\i= .int .i64 m/\J (l0.take m) wr/\Kept (fun k=>X k\/W.heap.size<=k) W wr) (fun i _=>l0.length - (intOf i).toNat)
 case atStart=>exact⟨0,Nat.zero_le _,rfl,by simpa using hJ0,Kept.refl _ _⟩
 case round=>
  obtain⟨m,hm,rfl,hJs,hkw⟩:=hrel
  rename World=>wr
  have HJS:=hid_of hJs
  have HKW:=hid_of hkw
  have szr:=hkw.size
  clear hJs hkw
  by_cases hlt:m < l0.length
  ·obtain⟨c,hcc⟩:∃c,l0[m]?= some c:=⟨_,List.getElem?_eq_getElem hlt⟩
   obtain⟨g,o,rfl,hgl,hce⟩:=HC.out m c hcc
   have nX:¬(X g\/W.heap.size<=g):=fun h=>h.elim (HXV.out g o _ _ rfl (by omega)) (fun h=>by omega)
   have e0:wr.cell? ⟨g,o+m*3,none⟩=some (.string c.id):=(HKW.out.cell (p:=⟨g,o+m*3,none⟩) hgl nX).trans (hce 0 _ rfl)
   have e1:wr.cell? ⟨g,o+m*3+1,none⟩=some (.int .i64 c.kind):=(HKW.out.cell (p:=⟨g,o+m*3+1,none⟩) hgl nX).trans (hce 1 _ rfl)
   have e2:wr.cell? ⟨g,o+m*3+2,none⟩=some (.int .i64 c.arg):=(HKW.out.cell (p:=⟨g,o+m*3+2,none⟩) hgl nX).trans (hce 2 _ rfl)
   have j1:(0:Int)<=(m:Int):=by omega
   have j2:(m:Int) < (l0.length:Int):=by omega
   have HT:Hid (l0.take (m+1)=l0.take m++ [c]):=by show _=_;rw[List.take_add_one,hcc];rfl
   clear hce nX hcc
   obtain⟨V,hV⟩:∃V,wr.alloc (Obj.cells #[.string c.id,.int .i64 c.kind,.int .i64 c.arg] 62)=V:=⟨_,rfl⟩
   have hbV:Below wr.heap.size wr V:=by rw[<-hV];exact(Below.refl _ _).alloc (Nat.le_refl _) _
   have bx:BoxAt V wr.heap.size 62 #[.string c.id,.int .i64 c.kind,.int .i64 c.arg]:=by rw[<-hV];exact BoxAt.new wr _ _
   have y0:=bx.cell (o:=0) rfl
   have y1:=bx.cell (o:=1) rfl
   have y2:=bx.cell (o:=2) rfl
   obtain⟨fn,tmps,assign,body,hy,hR⟩:=hY (l0.take m) c V (hJ _ _ _ HJS.out hbV) (Nat.le_trans szr hbV.size) (by rw[<-HT.out];exact List.take_prefix _ _)
   dsimp only[taskV]at hy
   gi_wp2
   refine⟨fun h=>(by cases h),?_⟩
   refine hR.mono ?_
   rintro e W3 ⟨rfl,hJ3,hk3⟩
   gi_wp2
   go_roundw
   case rel=>exact⟨m+1,by omega,by go_num,by rw[HT.out];exact hJ3,(HKW.out.trans (Kept.of_below hbV (fun k _ h=> .inr (Nat.le_trans szr h)))).trans (hk3.mono (fun k _ h=> .inl h))⟩
   case measure=>simp[intOf];omega
  ·obtain rfl:l0.length=m:=by omega
   gi_wp2
   go_end0
   exact⟨⟨_,rfl⟩,by have:=HJS.out;rwa [List.take_length]at this⟩
end Go.Proofs.YtfanaanofjhlkaaGreatDoor
