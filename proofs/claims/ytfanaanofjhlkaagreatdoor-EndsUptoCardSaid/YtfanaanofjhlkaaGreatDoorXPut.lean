import Derived.Test.YtfanaanofjhlkaaGreatDoorXWorkers
import Derived.Deep.RegionHeld3
import Derived.Test.YtfanaanofjhlkaaGreatDoorList
import Derived.Test.YtfanaanofjhlkaaGreatDoorRefSend
namespace Go.Proofs.YtfanaanofjhlkaaGreatDoor
open Go Go.RowKit Go.Maps Go.WideMaps
theorem below_alloc{A W:World}(h:Below A.heap.size A W)(o:Obj):Below A.heap.size A (W.alloc o):=h.alloc h.size o
theorem xok_new{n:Nat}{room mode kind arg:Int}{ks:List KindS}{W:World}{base B M lo hi lo2 hi2 g:Nat}{kv:Value}{part:Nat->Nat}{xs:List XW}(hn:0 < n)(hbox:BoxAt W B 105 #[kv,.int .i64 kind,.int .i64 arg,.int .i64 mode,.slice (some ⟨g,0,none⟩) n n,.slice none 0 0,.map (some M),.int .i64 0,.int .i64 0,.int .i64 0,.int .i64 0,.bool false,.int .i64 0,.int .i64 0,.bool false,.bool false,.bool false])(hK:KindsAt (fun b=>lo<=b/\b < hi) W kv ks)
  {D:DataW Unit} (hM:MapIs W M D) (hD:Keeps D []) (hpt:∀b,part b≠0->lo2<=b/\b < hi2/\7<=part b) (hrow:RowIn (fun b=>part b=7) 119 8 xwEnc W (.slice (some ⟨g,0,none⟩) n n) xs) (hxl:xs.length=n) (hn5:n<=5) (htl:∀i x,xs[i]?= some x->XBorn part W n room mode i x (if i=0 then [⟨⟨#[]⟩,kind,arg⟩]else []) (decide (i=0)))
  (h1:base<=lo) (h2:hi<=lo2) (h3:M < lo\/(hi<=M/\M < lo2)\/hi2<=M) (h4:base<=M) (h5:hi2<=B) (h6:M≠B) (h7:lo<=lo2) (h8:lo2<=hi2):XOK (fun b=>base<=b) W B (newS n room mode ks kind arg):=by
 have hpp:∀g',part g'≠0->(fun b=>if b=B then 1 else if b=M then 3 else if lo<=b/\b < hi then 6 else part b) g'=part g':=fun g' hne=>by
  have h:=hpt g' hne
  exact(if_neg (by omega)).trans ((if_neg (by omega)).trans (if_neg (by omega)))
 refine⟨fun b=>if b=B then 1 else if b=M then 3 else if lo<=b/\b < hi then 6 else part b,fun b hb=> ?_,⟨kv,_,_,M,xs,hbox,if_pos rfl,hK.mono' (fun b hb=> ?_),⟨hrow.1,fun g' e=> ?_⟩,by rw[hxl];simp[newS];omega,fun i x y hx hy=> ?_,by simp[newS];omega,fun ls hls=> ?_,by simp[newS];omega,fun i x ls hx hl=> ?_,fun i x hx=> ?_,RowIn.nil _ _ _ _ _,⟨D,hM,(if_neg h6).trans (if_pos rfl),hD⟩,fun i x y hx hy=> ?_⟩⟩
 ·dsimp only at hb
  by_cases e1:b=B
  ·omega
  ·rw[if_neg e1]at hb
   by_cases e2:b=M
   ·omega
   ·rw[if_neg e2]at hb
    by_cases e3:lo<=b/\b < hi
    ·omega
    ·rw[if_neg e3]at hb
     have:=hpt b hb
     omega
 ·exact(if_neg (by omega)).trans ((if_neg (by omega)).trans (if_pos hb))
 ·have:=hrow.2 g' e
  exact(hpp g' (by omega)).trans this
 ·have q:=htl i x hx
  have hy':y.tasks=(if i=0 then [⟨⟨#[]⟩,kind,arg⟩]else [])/\y.asked=false/\y.sent=0/\y.came=0/\y.black=false:=by
   cases i with
   |zero=>simp[newS]at hy;subst hy;exact⟨rfl,rfl,rfl,rfl,rfl⟩
   |succ i=>
    have:(List.replicate ((n:Int).toNat - 1) worker0)[i]?= some y:=by simpa[newS]using hy
    rw[replicate_get this]
    exact⟨rfl,rfl,rfl,rfl,rfl⟩
  rw[hy'.1]
  exact⟨⟨q.notes.asked.trans hy'.2.1.symm,q.notes.sent.trans hy'.2.2.1.symm,q.notes.came.trans hy'.2.2.2.1.symm,q.notes.black.trans hy'.2.2.2.2.symm⟩,q.tasks.kept (Kept.refl (fun _=>False) W) (fun g' _ e=>⟨fun h=>h,(hpp g' (by omega)).trans e⟩)⟩
 ·have:ls=List.replicate n link0:=by
   have:=List.eq_of_mem_replicate hls
   simpa using this
  rw[this]
  simp[newS];omega
 ·have hl':ls=List.replicate n link0:=by
   have:(List.replicate (n:Int).toNat (List.replicate (n:Int).toNat link0))[i]?= some ls:=hl
   rw[replicate_get this];simp
  rw[hl']
  exact(htl i x hx).out.kept (Kept.refl (fun _=>False) W) (fun g' _ e=>⟨fun h=>h,hpp g' (by omega)⟩)
 ·have hl':(newS n room mode ks kind arg).links=List.replicate n (List.replicate n link0):=by simp[newS]
  rw[hl']
  exact(htl i x hx).ins.kept (Kept.refl (fun _=>False) W) (fun g' _ e=>⟨fun h=>h,hpp g' (by omega)⟩)
 ·have q:=(htl i x hx).tok.kept (X':=fun g'=>(fun b=>if b=B then 1 else if b=M then 3 else if lo<=b/\b < hi then 6 else part b) g'=20+i) (Kept.refl (fun _=>False) W) (fun g' _ e=>⟨fun h=>h,(hpp g' (by omega)).trans e⟩)
  have hy':y.has=decide (i=0)/\y.token=worker0.token:=by
   cases i with
   |zero=>simp[newS]at hy;subst hy;exact⟨rfl,rfl⟩
   |succ i=>
    have:(List.replicate ((n:Int).toNat - 1) worker0)[i]?= some y:=by simpa[newS]using hy
    rw[replicate_get this]
    exact⟨by simp[worker0],rfl⟩
  have e:(i==0&&(newS n room mode ks kind arg).around)=false:=by simp[newS]
  rw[e]
  exact q.like hy'.1 hy'.2
theorem xfin{n:Nat}{room mode kind arg:Int}{ks:List KindS}{W W3 W5:World}{base B M lo lo2 g:Nat}{kv:Value}{part:Nat->Nat}{xs:List XW}{D:DataW Unit}(hn:0 < n)(hbox:BoxAt W B 105 #[kv,.int .i64 kind,.int .i64 arg,.int .i64 mode,.slice (some ⟨g,0,none⟩) n n,.slice none 0 0,.map (some M),.int .i64 0,.int .i64 0,.int .i64 0,.int .i64 0,.bool false,.int .i64 0,.int .i64 0,.bool false,.bool false,.bool false])(hK:KindsAt (fun b=>lo<=b/\b < W3.heap.size) W3 kv ks)(h3:Below W3.heap.size W3 W)
  (hM:MapIs W M D) (hD:Keeps D []) (hpt:∀b,part b≠0->lo2<=b/\b < W5.heap.size/\7<=part b) (hrow:RowIn (fun b=>part b=7) 119 8 xwEnc W5 (.slice (some ⟨g,0,none⟩) n n) xs) (hxl:xs.length=n) (hn5:n<=5) (htl:∀i x,xs[i]?= some x->XBorn part W5 n room mode i x (if i=0 then [⟨⟨#[]⟩,kind,arg⟩]else []) (decide (i=0))) (h5:Below W5.heap.size W5 W)
  (g1:base<=lo) (g2:W3.heap.size<=lo2) (g3:M < lo\/(W3.heap.size<=M/\M < lo2)\/W5.heap.size<=M) (g4:base<=M) (g5:W5.heap.size<=B) (g6:M≠B) (g7:lo<=lo2) (g8:lo2<=W5.heap.size):XOK (fun b=>base<=b) W B (newS n room mode ks kind arg):=by
 have k5:Kept (fun b=>W5.heap.size<=b) W5 W:=Kept.of_below h5 (fun _ _ h=>h)
 exact xok_new hn hbox (hK.kept (Kept.of_below h3 (X:=fun b=>W3.heap.size<=b) (fun _ _ h=>h)) (fun b h1 h2=>by omega)) hM hD hpt (hrow.kept k5 (fun g hg h=>⟨by omega,h⟩)) hxl hn5 (fun i x hx=>(htl i x hx).kept k5 (fun g hg h=>⟨by omega,rfl⟩)) g1 g2 g3 g4 g5 g6 g7 g8
theorem map_made(W:World):∃D,MapIs (W.alloc (Obj.map #[] 0)) W.heap.size D/\Keeps D []:=⟨_,mapIs_of (World.ownsMap_made W Tryz.prog 9 (plainElem Tryz.prog 3)),Keeps.nil⟩
set_option maxHeartbeats 4000000 in
set_option maxRecDepth 100000 in
theorem x_new_good(a:Option Addr)(cap:Nat)(workers room mode kind arg:Int)(ks:List KindS)(w:World)(hk:KindsAt (fun _=>True) w (.slice a ks.length cap) ks)(hc:cfgB workers room mode=true)(hu:(unfoldS ks kind arg).1=0) :
  Calls Tryz.prog 21 #[.agg #[.int .i64 workers,.int .i64 room,.int .i64 mode],.agg #[.slice a ks.length cap,.int .i64 kind,.int .i64 arg]] w fun e w'=>∃B,e= .returned (.tuple #[.pointer (some ⟨B,0,none⟩),.int .i64 0])/\XOK (fun b=>w.heap.size<=b) w' B (newS workers room mode ks kind arg)/\Below w.heap.size w w':=by
 have hprog:progB ks kind arg=true:=by
  by_cases h:progB ks kind arg=true
  ·exact h
  ·simp[unfoldS,h]at hu
 have hlen5:ks.length<=5:=by simp[progB,rangeB]at hprog;omega
 have HL2:Hid (∀k∈ks,k.kids.length<=9223372036854775806):=fun k hk=>by
  simp[progB]at hprog
  have:=hprog.1.1.2 k hk
  simp[kindB]at this
  have:=this.1.2
  omega
 obtain⟨V,hV⟩:∃V,(w.alloc (Obj.cells #[.int .i64 workers,.int .i64 room,.int .i64 mode] 38)).alloc (Obj.cells #[.slice a ks.length cap,.int .i64 kind,.int .i64 arg] 41)=V:=⟨_,rfl⟩
 have bC:BoxAt V w.heap.size 38 #[.int .i64 workers,.int .i64 room,.int .i64 mode]:=by rw[<-hV];exact(BoxAt.new w _ _).alloc _
 have bP:BoxAt V (w.heap.size+1) 41 #[.slice a ks.length cap,.int .i64 kind,.int .i64 arg]:=by
  rw[<-hV];have:=BoxAt.new (w.alloc (Obj.cells #[.int .i64 workers,.int .i64 room,.int .i64 mode] 38)) 41 #[.slice a ks.length cap,.int .i64 kind,.int .i64 arg]
  rw[World.size_alloc]at this;exact this
 have hbV:Below w.heap.size w V:=by rw[<-hV];exact((Below.refl _ _).alloc (Nat.le_refl _) _).alloc (by simp) _
 have sV:w.heap.size+2<=V.heap.size:=by rw[<-hV];simp
 have h2:2<=workers:=by simp[cfgB]at hc;omega
 have h5:workers<=5:=by simp[cfgB]at hc;omega
 obtain⟨n,rfl⟩:∃n:Nat,workers=(n:Int):=⟨workers.toNat,by omega⟩
 have c0:=bC.cell (o:=0) rfl
 have c1:=bC.cell (o:=1) rfl
 have c2:=bC.cell (o:=2) rfl
 have HBP:=hid_of bP
 have HBC:=hid_of bC
 have HKV:Hid (KindsAt (fun b=>b < w.heap.size) V (.slice a ks.length cap) ks):=(hk.below.kept (Kept.of_below hbV (X:=fun b=>w.heap.size<=b) (fun _ _ h=>h)) (fun b h1 h2=>by omega)).mono' (fun _ h=>h.2)
 have HBV:Hid (Below w.heap.size w V):=hbV
 have HCF:=hid_of (isConfig_calls n room mode V)
 rw[hc]at HCF
 have hmm:= @run_makeMap Tryz.prog
 have HU0:Hid ((unfoldS ks kind arg).1=0):=hu
 clear bC bP hbV hk hc hu
 go_enter Tryz.func21,Tryz.ntmps21
 go_upto_region 3 with(go_at_call 47;refine HCF.out.mono ?_;rintro e w1 ⟨rfl,hb1⟩)
 have hP1:=HBP.out.below hb1 HBP.out.lt
 have p0:=hP1.cell (o:=0) rfl
 have p1:=hP1.cell (o:=1) rfl
 have p2:=hP1.cell (o:=2) rfl
 have HU:=hid_of (unfold_calls a cap kind arg ks w1 ((HKV.out.kept (Kept.of_below hb1 (X:=fun b=>V.heap.size<=b) (fun _ _ h=>h)) (fun b h1 h2=>by omega)).mono' (fun _ _=>trivial)) (by omega) HL2.out)
 rw[HU0.out]at HU
 have HB1:=hid_of hb1
 have s1:=hb1.size
 clear hP1 c0 c1 c2 hV
 go_upto_region 6 with(go_at_call 35;refine HU.out.mono ?_;rintro e w2 ⟨v2,rfl,-,hb2⟩)
 have s2:=hb2.size
 have hbV2:Below V.heap.size V w2:=HB1.out.trans (hb2.mono s1)
 have HP2:=hid_of (HBP.out.below hbV2 HBP.out.lt)
 have HC2:=hid_of (HBC.out.below hbV2 HBC.out.lt)
 have HK2:Hid (KindsAt (fun b=>b < w.heap.size) w2 (.slice a ks.length cap) ks):=HKV.out.kept (Kept.of_below hbV2 (X:=fun b=>V.heap.size<=b) (fun _ _ h=>h)) (fun b h1 h2=>by omega)
 have HBw2:Hid (Below w.heap.size w w2):=HBV.out.trans (hbV2.mono (by omega))
 have HCP:Hid (∀U,Below w2.heap.size w2 U->Calls Tryz.prog 48 #[.agg #[.slice a ks.length cap,.int .i64 kind,.int .i64 arg]] U fun e w'=>∃v,e= .returned v/\∃a' c',v= .agg #[.slice a' ks.length c',.int .i64 kind,.int .i64 arg]/\KindsAt (fun b=>U.heap.size<=b/\b < w'.heap.size) w' (.slice a' ks.length c') ks/\Below U.heap.size U w'/\Below w2.heap.size w2 w'):=fun U hU=>by
  refine(copy_calls a cap kind arg ks U ((HK2.out.kept (Kept.of_below hU (X:=fun b=>w2.heap.size<=b) (fun _ _ h=>h)) (fun b h1 h2=>by have:=HBw2.out.size;omega)).mono' (fun _ _=>trivial)) hprog).mono ?_
  rintro e w' ⟨a',c',rfl,h1,h2⟩
  exact⟨_,rfl,a',c',rfl,h1.below,h2,hU.trans (h2.mono hU.size)⟩
 have HFI:Hid (∀U,Below w2.heap.size w2 U->Calls Tryz.prog 50 #[.agg #[.slice a ks.length cap,.int .i64 kind,.int .i64 arg]] U fun e w'=>∃v,e= .returned v/\v= .agg #[.string ⟨#[]⟩,.int .i64 kind,.int .i64 arg]/\Below U.heap.size U w'/\Below w2.heap.size w2 w'):=fun U hU=>by
  refine(first_calls a ks.length cap kind arg U).mono ?_
  rintro e w' ⟨rfl,h1⟩
  exact⟨_,rfl,rfl,h1,hU.trans (h1.mono hU.size)⟩
 have HNW:Hid (∀U,Below w2.heap.size w2 U->Calls Tryz.prog 49 #[.agg #[.int .i64 n,.int .i64 room,.int .i64 mode],.agg #[.string ⟨#[]⟩,.int .i64 kind,.int .i64 arg]] U fun e w'=>∃v,e= .returned v/\∃(part:Nat->Nat) (g:Nat) (xs:List XW),v= .slice (some ⟨g,0,none⟩) n n/\(∀b,part b≠0->U.heap.size<=b/\b < w'.heap.size/\7<=part b)/\
   RowIn (fun b=>part b=7) 119 8 xwEnc w' (.slice (some ⟨g,0,none⟩) n n) xs/\xs.length=n/\(∀i x,xs[i]?= some x->XBorn part w' n room mode i x (if i=0 then [⟨⟨#[]⟩,kind,arg⟩]else []) (decide (i=0)))/\Below U.heap.size U w'/\Below w2.heap.size w2 w'):=fun U hU=>by
  refine(newWorkers_calls n room mode ⟨⟨#[]⟩,kind,arg⟩ U (by omega) (by omega)).mono ?_
  rintro e w' ⟨part,g,xs,rfl,h1,h2,h3,h4,h5⟩
  exact⟨_,rfl,part,g,xs,rfl,h1,h2,h3,h4,h5,hU.trans (h5.mono hU.size)⟩
 clear p0 p1 p2 hb1 hb2 hbV2
 have HST:Hid (∀U,Below w2.heap.size w2 U->Below w2.heap.size w2 U/\U.cell? ⟨w.heap.size+1,0,none⟩=some (.slice a ks.length cap)/\U.cell? ⟨w.heap.size+1,1,none⟩=some (.int .i64 kind)/\U.cell? ⟨w.heap.size+1,2,none⟩=some (.int .i64 arg)/\U.cell? ⟨w.heap.size,0,none⟩=some (.int .i64 n)/\U.cell? ⟨w.heap.size,1,none⟩=some (.int .i64 room)/\U.cell? ⟨w.heap.size,2,none⟩=some (.int .i64 mode)):=fun U hU=>by
  have hP:=HP2.out.below hU HP2.out.lt
  have hC:=HC2.out.below hU HC2.out.lt
  exact⟨hU,hP.cell (o:=0) rfl,hP.cell (o:=1) rfl,hP.cell (o:=2) rfl,hC.cell (o:=0) rfl,hC.cell (o:=1) rfl,hC.cell (o:=2) rfl⟩
 have p0:=HP2.out.cell (o:=0) rfl
 have p1:=HP2.out.cell (o:=1) rfl
 have p2:=HP2.out.cell (o:=2) rfl
 have c0:=HC2.out.cell (o:=0) rfl
 have c1:=HC2.out.cell (o:=1) rfl
 have c2:=HC2.out.cell (o:=2) rfl
 go_region_held3 (fun U=>Below w2.heap.size w2 U/\U.cell? ⟨w.heap.size+1,0,none⟩=some (.slice a ks.length cap)/\U.cell? ⟨w.heap.size+1,1,none⟩=some (.int .i64 kind)/\U.cell? ⟨w.heap.size+1,2,none⟩=some (.int .i64 arg)/\U.cell? ⟨w.heap.size,0,none⟩=some (.int .i64 n)/\U.cell? ⟨w.heap.size,1,none⟩=some (.int .i64 room)/\U.cell? ⟨w.heap.size,2,none⟩=some (.int .i64 mode))
  (first|assumption|(exact HST.out _ (by assumption))|(exact HST.out _ (Below.refl _ _))|(exact HST.out _ (Below.refl _ _).drew)|(exact HST.out _ (below_alloc (by assumption) _))|(exact HST.out _ (below_alloc (And.left (by assumption)) _))|(exact HST.out _ (below_alloc (below_alloc (And.left (by assumption)) _) _)))
  (first
  |(go_at_call 48;refine(HCP.out _ (by first|assumption|exact Below.refl _ _|exact(Below.refl _ _).drew|exact And.left (by assumption))).mono ?_;rintro e w3 ⟨v3,rfl,a3,c3,rfl,hK3,hU3,hb3⟩)
  |(go_at_call 50;refine(HFI.out _ (by first|assumption|exact And.left (by assumption))).mono ?_;rintro e w4 ⟨v4,rfl,rfl,hU4,hb4⟩)
  |(go_at_call 49;refine(HNW.out _ (by first|assumption|exact And.left (by assumption))).mono ?_;rintro e w5 ⟨v5,rfl,part,g5,xs,rfl,hpt5,hrow5,hxl5,htl5,hU5,hb5⟩))
 ·go_wp2_with fail
  go_ret2
  obtain⟨D,hM,hD⟩:=map_made w5
  have e2:=HBw2.out.size
  have e3:w2.heap.size<=w3.heap.size:=hU3.size
  have e4:=hU4.size
  have e5:=hU5.size
  have hA:=below_alloc (Below.refl w5.heap.size w5) (Obj.map #[] 0)
  refine⟨_,rfl,xfin (M:=w5.heap.size) (lo:=w2.heap.size) (by omega) (boxAt_at _ _ _ _ (by simp)) hK3 ?_ (hM.below ((Below.refl _ _).alloc (Nat.le_refl _) _) (by simp)) hD hpt5 hrow5 hxl5 (by omega) htl5 (below_alloc hA _) (by omega) e4 (.inr (.inr (Nat.le_refl _))) (by omega) (by omega) (by omega) (by omega) e5,?_⟩
  ·exact((hU4.trans (hU5.mono e4)).alloc (by omega) _).alloc (by simp;omega) _
  ·exact HBw2.out.trans (((hb5.alloc hb5.size _).alloc (by simp;omega) _).mono HBw2.out.size)
 ·go_wp2_with fail
  go_ret2
  obtain⟨D,hM,hD⟩:=map_made w4
  have e2:=HBw2.out.size
  have e3:w2.heap.size<=w3.heap.size:=hU3.size
  have e4:=hU4.size
  have e5:w4.heap.size+1<=w5.heap.size:=by have:=hU5.size;simpa using this
  have hA:Below w4.heap.size w4 w5:=(below_alloc (Below.refl w4.heap.size w4) (Obj.map #[] 0)).trans (hU5.mono (by simp))
  have hM5:MapIs w5 w4.heap.size D:=hM.below hU5 (by simp)
  refine⟨_,rfl,xfin (M:=w4.heap.size) (lo:=w2.heap.size) (lo2:=w4.heap.size+1) (by omega) (boxAt_at _ _ _ _ rfl) hK3 ?_ (hM5.below ((Below.refl _ _).alloc (Nat.le_refl _) _) hM5.lt) hD (fun b hb=>by have:=hpt5 b hb;simpa using this) hrow5 hxl5 (by omega) htl5 (below_alloc (Below.refl _ _) _) (by omega) (by omega) (.inr (.inl ⟨by omega,by omega⟩)) (by omega) (Nat.le_refl _) (by omega) (by omega) e5,?_⟩
  ·exact(hU4.trans (hA.mono e4)).alloc (by omega) _
  ·exact HBw2.out.trans ((hb5.alloc hb5.size _).mono HBw2.out.size)
 ·go_wp2_with fail
  go_ret2
  obtain⟨D,hM,hD⟩:=map_made w3
  have e2:=HBw2.out.size
  have e3:w2.heap.size<=w3.heap.size:=hU3.size
  have e4:w3.heap.size+1<=w4.heap.size:=by have:=hU4.size;simpa using this
  have e5:=hU5.size
  have hA:Below w3.heap.size w3 w4:=(below_alloc (Below.refl w3.heap.size w3) (Obj.map #[] 0)).trans (hU4.mono (by simp))
  have hM4:MapIs w4 w3.heap.size D:=hM.below hU4 (by simp)
  have hM5:MapIs w5 w3.heap.size D:=hM4.below hU5 hM4.lt
  refine⟨_,rfl,xfin (M:=w3.heap.size) (lo:=w2.heap.size) (lo2:=w4.heap.size) (by omega) (boxAt_at _ _ _ _ rfl) hK3 ?_ (hM5.below ((Below.refl _ _).alloc (Nat.le_refl _) _) hM5.lt) hD hpt5 hrow5 hxl5 (by omega) htl5 (below_alloc (Below.refl _ _) _) (by omega) (by omega) (.inr (.inl ⟨by omega,by omega⟩)) (by omega) (Nat.le_refl _) (by omega) (by omega) e5,?_⟩
  ·exact(hA.trans (hU5.mono (by omega))).alloc (by omega) _
  ·exact HBw2.out.trans ((hb5.alloc hb5.size _).mono HBw2.out.size)
 ·go_wp2_with fail
  go_ret2
  obtain⟨D,hM,hD⟩:=map_made w2
  have e2:=HBw2.out.size
  have e3:w2.heap.size+1<=w3.heap.size:=by have:=hU3.size;have h9:(w2.alloc (Obj.map #[] 0)).heap.size<=w3.heap.size:=this;simpa using h9
  have e4:=hU4.size
  have e5:=hU5.size
  have hM3:MapIs w3 w2.heap.size D:=by
   have hMd:MapIs (w2.alloc (Obj.map #[] 0)).drew w2.heap.size D:=hM
   exact hMd.below hU3 hMd.lt
  have hM4:MapIs w4 w2.heap.size D:=hM3.below hU4 hM3.lt
  have hM5:MapIs w5 w2.heap.size D:=hM4.below hU5 hM4.lt
  have hK3':KindsAt (fun b=>w2.heap.size+1<=b/\b < w3.heap.size) w3 (.slice a3 ks.length c3) ks:=hK3.mono' (fun b hb=>⟨by have h9:(w2.alloc (Obj.map #[] 0)).heap.size<=b:=hb.1;simpa using h9,hb.2⟩)
  refine⟨_,rfl,xfin (M:=w2.heap.size) (lo:=w2.heap.size+1) (lo2:=w4.heap.size) (by omega) (boxAt_at _ _ _ _ rfl) hK3' ?_ (hM5.below ((Below.refl _ _).alloc (Nat.le_refl _) _) hM5.lt) hD hpt5 hrow5 hxl5 (by omega) htl5 (below_alloc (Below.refl _ _) _) (by omega) (by omega) (.inl (by omega)) (by omega) (Nat.le_refl _) (by omega) (by omega) e5,?_⟩
  ·exact(hU4.trans (hU5.mono (by omega))).alloc (by omega) _
  ·exact HBw2.out.trans ((hb5.alloc hb5.size _).mono HBw2.out.size)
end Go.Proofs.YtfanaanofjhlkaaGreatDoor
namespace Go.Proofs.YtfanaanofjhlkaaGreatDoor
open Go Go.RowKit
section
variable {part part':Nat->Nat} {W W':World} {B M:Nat} {s:RunS} {kv wv yv:Value} {xs:List XW}
theorem Moved.okX{F:Nat->Prop}(h:Moved part part' W W')(hr:XAtO part' W' B s kv wv yv M xs)(hF:∀b,part b≠0->F b):XOK (fun b=>F b\/W.heap.size<=b) W' B s/\Kept F W W':=by
 refine⟨⟨part',fun b hb=> ?_,kv,wv,yv,M,xs,hr⟩,h.kept.mono (fun b _ hb=>hF b hb)⟩
 rcases Nat.lt_or_ge b W.heap.size with hl|hl
 ·exact .inl (hF b (h.old b hl hb))
 ·exact .inr hl
structure XMoved(part part':Nat->Nat)(W W':World):Prop where
 kept:Kept (fun b=>part b≠0) W W'
 old:∀b,b < W.heap.size->part' b≠0->part b≠0
 ends:∀b,b < W.heap.size->200<=part b->part' b=part b/\W'.heap[b]?= W.heap[b]?
theorem XMoved.base(h:XMoved part part' W W'):Moved part part' W W':=⟨h.kept,h.old⟩
theorem XMoved.refl(part:Nat->Nat)(W:World):XMoved part part W W:=⟨Kept.refl _ _,fun _ _ h=>h,fun _ _ _=>⟨rfl,rfl⟩⟩
theorem XMoved.trans{p p' p'':Nat->Nat}{W W' W'':World}(h:XMoved p p' W W')(k:XMoved p' p'' W' W''):XMoved p p'' W W'':=
 ⟨h.kept.andThen k.kept (fun b hb hp=>h.old b hb hp),fun b hb hp=>h.old b hb (k.old b (Nat.lt_of_lt_of_le hb h.kept.size) hp),fun b hb hp=>by
  obtain⟨h1,h2⟩:=h.ends b hb hp
  obtain⟨k1,k2⟩:=k.ends b (Nat.lt_of_lt_of_le hb h.kept.size) (by omega)
  exact⟨k1.trans h1,k2.trans h2⟩⟩
theorem XMoved.of{Y:Nat->Prop}(n:Nat)(k:Kept Y W W')(hY:∀g,g < W.heap.size->Y g->part g≠0/\part g < 200):XMoved part (ext W part n) W W':=
 ⟨k.mono (fun g hg h=>(hY g hg h).1),fun b hb h=>by rwa [ext_old hb]at h,fun b hb hp=>⟨ext_old hb,k.block b hb (fun h=>by have:=(hY b hb h).2;omega)⟩⟩
theorem XMoved.okX{F:Nat->Prop}(h:XMoved part part' W W')(hr:XAtO part' W' B s kv wv yv M xs)(hF:∀b,part b≠0->F b):XOK (fun b=>F b\/W.heap.size<=b) W' B s/\Kept F W W':=h.base.okX hr hF
theorem XAtO.later(h:XAtO part W B s kv wv yv M xs)(hb:Below W.heap.size W W'):XAtO (ext W part 0) W' B s kv wv yv M xs/\XMoved part (ext W part 0) W W':=by
 have k:Kept (fun b=>W.heap.size<=b) W W':=Kept.of_below hb (fun _ _ h=>h)
 exact⟨h.kept k (fun g hg _=>⟨by omega,ext_old hg⟩),XMoved.of 0 k (fun g hl hg=>by omega)⟩
theorem XAtO.aside{Y:Nat->Prop}(h:XAtO part W B s kv wv yv M xs)(k:Kept Y W W')(hY:∀g,g < W.heap.size->Y g->part g=0):XAtO (ext W part 0) W' B s kv wv yv M xs:=
 h.kept k (fun g hg hp=>⟨fun hy=>hp (hY g hg hy),ext_old hg⟩)
theorem XAtO.rebox{an:List AnsS}{d o:Bool}(h:XAtO part W B s kv wv yv M xs)(k:Kept (·= B) W W')(hb:BoxAt W' B 105 (xrunCells {s with answers:=an,done:=d,over:=o} kv wv yv M)):XAtO (ext W part 0) W' B {s with answers:=an,done:=d,over:=o} kv wv yv M xs/\XMoved part (ext W part 0) W W':=by
 have hY:∀g,g < W.heap.size->g=B->part g=1:=fun g _ e=>by rw[e];exact h.pB
 have R:=h.rest (part':=ext W part 0) 5 k (fun g hg=>ext_old hg) (fun g hl hg=> .inl (hY g hl hg))
 exact⟨⟨hb,(ext_old h.box.lt).trans h.pB,R.kinds (by omega),R.wrow (by omega),h.wlen,fun i x y=>R.wat i x y (by omega),h.llen,h.lrow,h.five,fun i x ls=>R.lat i x ls (by omega) (.inl (by omega)),fun i x=>R.iat i x (by omega) (.inl (by omega)),R.yrow (by omega),R.vals (by omega),fun i x y=>R.tat i x y (by omega)⟩,XMoved.of 0 k (fun g hl hg=>by have:=hY g hl hg;omega)⟩
theorem XAtO.over(h:XAtO part W B s kv wv yv M xs)(k:Kept (·= B) W W')(hb:BoxAt W' B 105 (xrunCells {s with over:=true} kv wv yv M)):XAtO (ext W part 0) W' B {s with over:=true} kv wv yv M xs/\XMoved part (ext W part 0) W W':=
 h.rebox (an:=s.answers) (d:=s.done) (o:=true) k hb
theorem XAtO.reway{yv':Value}{way':List MsgS}(h:XAtO part W B s kv wv yv M xs)(k:Kept (fun g=>g=B\/part g=2) W W')(hb:BoxAt W' B 105 (xrunCells {s with way:=way'} kv wv yv' M))
  (hr:W'.ownsRow 0 124 15 yv' way'.length (way'.flatMap msgEnc)) (ho:∀g,yv'.ownBlock=some g->part g=2/\g < W.heap.size\/W.heap.size<=g) :
  XAtO (ext W part 2) W' B {s with way:=way'} kv wv yv' M xs/\XMoved part (ext W part 2) W W':=by
 have hpB:=h.pB
 have hY:∀g,g < W.heap.size->(g=B\/part g=2)->part g=1\/part g=2:=fun g _ e=>by rcases e with rfl|e<;>omega
 have R:=h.rest (part':=ext W part 2) 2 k (fun g hg=>ext_old hg) hY
 exact⟨⟨hb,(ext_old h.box.lt).trans h.pB,R.kinds (by omega),R.wrow (by omega),h.wlen,fun i x y=>R.wat i x y (by omega),h.llen,h.lrow,h.five,fun i x ls=>R.lat i x ls (by omega) (.inl (by omega)),fun i x=>R.iat i x (by omega) (.inl (by omega)),rowIn_ext hr ho,R.vals (by omega),fun i x y=>R.tat i x y (by omega)⟩,XMoved.of 2 k (fun g hl hg=>by have:=hY g hl hg;omega)⟩
theorem XAtO.revals{vs:List (ByteArray×Int)}(h:XAtO part W B s kv wv yv M xs)(k:Kept (·= M) W W')(hv:KeptAt part W' M vs):XAtO (ext W part 0) W' B {s with values:=vs} kv wv yv M xs/\XMoved part (ext W part 0) W W':=by
 have h3:=h.vals.is
 have hpB:=h.pB
 have hY:∀g,g < W.heap.size->g=M->part g=3:=fun g _ e=>by rw[e];exact h3
 have R:=h.rest (part':=ext W part 0) 3 k (fun g hg=>ext_old hg) (fun g hl hg=> .inr (hY g hl hg))
 refine⟨⟨h.box.kept k (fun e=>by rw[e]at hpB;omega),(ext_old h.box.lt).trans h.pB,R.kinds (by omega),R.wrow (by omega),h.wlen,fun i x y=>R.wat i x y (by omega),h.llen,h.lrow,h.five,fun i x ls=>R.lat i x ls (by omega) (.inl (by omega)),fun i x=>R.iat i x (by omega) (.inl (by omega)),R.yrow (by omega),?_,fun i x y=>R.tat i x y (by omega)⟩,XMoved.of 0 k (fun g hl hg=>by have:=hY g hl hg;omega)⟩
 obtain⟨D,h1,h2,h4⟩:=hv
 exact⟨D,h1,(ext_old h.vals.lt).trans h3,h4⟩
theorem XAtO.retasks{i:Nat}{x:XW}{y:WorkerS}{l:List TaskS}(h:XAtO part W B s kv wv yv M xs)(hi:xs[i]?= some x)(hy:s.W[i]?= some y)(k:Kept (fun g=>part g=10+i) W W')
  (hx:TaskListAt (fun b=>part b=10+i/\b < W.heap.size\/W.heap.size<=b) W' x.T s.room l):XAtO (ext W part (10+i)) W' B {s with W:=s.W.set i {y with tasks:=l}} kv wv yv M xs/\XMoved part (ext W part (10+i)) W W':=by
 have hpB:=h.pB
 have h5:=h.five
 have hil:=(List.getElem?_eq_some_iff.1 hy).1
 have R:=h.rest (part':=ext W part (10+i)) (10+i) k (fun g hg=>ext_old hg) (fun g _ hg=> .inr hg)
 refine⟨⟨h.box.kept k (by omega),(ext_old h.box.lt).trans h.pB,R.kinds (by omega),R.wrow (by omega),by simpa using h.wlen,fun i' x' y' hx' hy'=> ?_,by simpa using h.llen,by simpa using h.lrow,by simpa using h5,fun i x ls=>R.lat i x ls (by omega) (.inl (by omega)),fun i x=>R.iat i x (by omega) (.inl (by omega)),R.yrow (by omega),R.vals (by omega),fun i' x' y' hx' hy'=> ?_⟩,XMoved.of _ k (fun g hl hg=>by omega)⟩
 rotate_left
 ·have hy1:(s.W.set i {y with tasks:=l})[i']?= some y':=hy'
  have hi5:i' < xs.length:=(List.getElem?_eq_some_iff.1 hx').1
  have hwl:=h.wlen
  by_cases e:i'=i
  ·subst e
   rw[List.getElem?_set_self hil]at hy1
   obtain rfl:=Option.some.inj hy1
   exact(R.tat i' x' y (by omega) hx' hy).like rfl rfl
  ·rw[List.getElem?_set_ne (fun e'=>e e'.symm)]at hy1
   exact R.tat i' x' y' (by omega) hx' hy1
 have hy1:(s.W.set i {y with tasks:=l})[i']?= some y':=hy'
 by_cases e:i'=i
 ·subst e
  rw[hi]at hx'
  obtain rfl:=Option.some.inj hx'
  rw[List.getElem?_set_self hil]at hy1
  obtain rfl:=Option.some.inj hy1
  refine⟨⟨(h.wat i' x y hi hy).1.asked,(h.wat i' x y hi hy).1.sent,(h.wat i' x y hi hy).1.came,(h.wat i' x y hi hy).1.black⟩,hx.kept (Kept.refl (fun _=>False) W') (fun b _ hb=>⟨fun h=>h,?_⟩)⟩
  rcases hb with⟨h1,h2⟩|h1
  ·exact(ext_old h2).trans h1
  ·exact ext_new h1
 ·rw[List.getElem?_set_ne (fun e'=>e e'.symm)]at hy1
  exact R.wat i' x' y' (by omega) hx' hy1
theorem XAtO.retok{i n:Nat}{x x':XW}{y y':WorkerS}{ar:Bool}(h:XAtO part W B s kv wv yv M xs)(hi:xs[i]?= some x)(hy:s.W[i]?= some y)(ht:y'.tasks=y.tasks)(hn:x'.Notes y')(hT:x'.T=x.T/\x'.outv=x.outv/\x'.inv=x.inv)(k:Kept (fun g=>part g=7) W W')(hn0:n=0\/n=20+i)(har:i≠0->ar=s.around)(htk:TokAt (fun b=>ext W part n b=20+i) W' s.mode (i==0&&ar) y' x'.tok)
  (hr:W'.ownsRow 0 119 8 wv (xs.set i x').length ((xs.set i x').flatMap xwEnc)):XAtO (ext W part n) W' B {s with W:=s.W.set i y',around:=ar} kv wv yv M (xs.set i x')/\XMoved part (ext W part n) W W':=by
 have hpB:=h.pB
 have hil:=(List.getElem?_eq_some_iff.1 hy).1
 have hxl:=(List.getElem?_eq_some_iff.1 hi).1
 have R:=h.rest (part':=ext W part n) 7 k (fun g hg=>ext_old hg) (fun g _ hg=> .inr hg)
 refine⟨⟨h.box.kept k (by omega),(ext_old h.box.lt).trans h.pB,R.kinds (by omega),⟨hr,fun g e=>(ext_old (h.wrow.1.lt g e).2).trans (h.wrow.2 g e)⟩,by simpa using h.wlen,fun i' z' z hx' hz=> ?_,by simpa using h.llen,by simpa using h.lrow,by simpa using h.five,fun i' z' ls hx' hl=> ?_,fun i' z' hx'=> ?_,R.yrow (by omega),R.vals (by omega),fun i' z' z hx' hz=> ?_⟩,XMoved.of _ k (fun g hl hg=>by omega)⟩
 ·have hy1:(s.W.set i y')[i']?= some z:=hz
  by_cases e:i'=i
  ·subst e
   rw[List.getElem?_set_self hxl]at hx'
   obtain rfl:=Option.some.inj hx'
   rw[List.getElem?_set_self hil]at hy1
   obtain rfl:=Option.some.inj hy1
   exact⟨hn,by rw[ht,hT.1];exact(R.wat i' x y (by omega) hi hy).2⟩
  ·rw[List.getElem?_set_ne (fun e'=>e e'.symm)]at hy1 hx'
   exact R.wat i' z' z (by omega) hx' hy1
 ·by_cases e:i'=i
  ·subst e
   rw[List.getElem?_set_self hxl]at hx'
   obtain rfl:=Option.some.inj hx'
   rw[hT.2.1]
   exact R.lat i' x ls (by omega) (.inl (by omega)) hi hl
  ·rw[List.getElem?_set_ne (fun e'=>e e'.symm)]at hx'
   exact R.lat i' z' ls (by omega) (.inl (by omega)) hx' hl
 ·by_cases e:i'=i
  ·subst e
   rw[List.getElem?_set_self hxl]at hx'
   obtain rfl:=Option.some.inj hx'
   rw[hT.2.2]
   exact R.iat i' x (by omega) (.inl (by omega)) hi
  ·rw[List.getElem?_set_ne (fun e'=>e e'.symm)]at hx'
   exact R.iat i' z' (by omega) (.inl (by omega)) hx'
 ·have hy1:(s.W.set i y')[i']?= some z:=hz
  by_cases e:i'=i
  ·subst e
   rw[List.getElem?_set_self hxl]at hx'
   obtain rfl:=Option.some.inj hx'
   rw[List.getElem?_set_self hil]at hy1
   obtain rfl:=Option.some.inj hy1
   exact htk
  ·rw[List.getElem?_set_ne (fun e'=>e e'.symm)]at hy1 hx'
   have h9:=R.tat i' z' z (by omega) hx' hy1
   by_cases e0:i'=0
   ·have:ar=s.around:=har (by omega)
    rw[this]
    exact h9
   ·have e1:(i'==0)=false:=by simp[e0]
    rw[e1]at h9 ⊢
    exact h9
theorem XAtO.renote{i:Nat}{x x':XW}{y y':WorkerS}(h:XAtO part W B s kv wv yv M xs)(hi:xs[i]?= some x)(hy:s.W[i]?= some y)(ht:y'.tasks=y.tasks/\y'.has=y.has/\y'.token=y.token)(hn:x'.Notes y')(hT:x'.T=x.T/\x'.outv=x.outv/\x'.inv=x.inv/\x'.tok=x.tok)(k:Kept (fun g=>part g=7) W W')
  (hr:W'.ownsRow 0 119 8 wv (xs.set i x').length ((xs.set i x').flatMap xwEnc)):XAtO (ext W part 0) W' B {s with W:=s.W.set i y'} kv wv yv M (xs.set i x')/\XMoved part (ext W part 0) W W':=by
 have R:=h.rest (part':=ext W part 0) 7 k (fun g hg=>ext_old hg) (fun g _ hg=> .inr hg)
 refine h.retok (ar:=s.around) (n:=0) hi hy ht.1 hn ⟨hT.1,hT.2.1,hT.2.2.1⟩ k (.inl rfl) (fun _=>rfl) ?_ hr
 rw[hT.2.2.2]
 exact(R.tat i x y (by omega) hi hy).like ht.2.1 ht.2.2
theorem XInsAt.relink{i a b:Nat}{v:Value}{links:List (List LinkS)}{ls:List LinkS}{l l':LinkS}(h:XInsAt part i W v links)(ha:links[a]?= some ls)(hb:ls[b]?= some l)(hl:b=i->InLike l l'):XInsAt part i W v (links.set a (ls.set b l')):=by
 obtain⟨qs,h1,h2,h3⟩:=h
 refine⟨qs,h1,by simpa using h2,fun j q row z hq hr hz=> ?_⟩
 by_cases e:j=a
 ·subst e
  rw[List.getElem?_set_self (List.getElem?_eq_some_iff.1 ha).1]at hr
  obtain rfl:=Option.some.inj hr
  by_cases e:i=b
  ·subst e
   rw[List.getElem?_set_self (List.getElem?_eq_some_iff.1 hb).1]at hz
   obtain rfl:=Option.some.inj hz
   exact(h3 j q ls l hq ha hb).like (hl rfl)
  ·rw[List.getElem?_set_ne (fun e'=>e e'.symm)]at hz
   exact h3 j q ls z hq ha hz
 ·rw[List.getElem?_set_ne (fun e'=>e e'.symm)]at hr
  exact h3 j q row z hq hr hz
theorem XAtO.relink{i j q:Nat}{x:XW}{ls:List LinkS}{l l':LinkS}{qs:List (Option Nat)}(h:XAtO part W B s kv wv yv M xs)(hi:xs[i]?= some x)(hl:s.links[i]?= some ls)(hij:j≠i)(hqs:RowIn (fun b=>part b=9) 206 1 optEnc W x.outv qs)(hql:qs.length=ls.length)(hqe:∀j q l,qs[j]?= some q->ls[j]?= some l->EndAt part i j W l q)(hq:qs[j]?= some (some q))(hlj:ls[j]?= some l)(hlk:InLike l l')(k:Kept (fun g=>part g=100+10*i+j) W W')
  (hx:OutAt (fun b=>part b=100+10*i+j/\b < W.heap.size\/W.heap.size<=b) W' q l'):XAtO (ext W part (100+10*i+j)) W' B {s with links:=s.links.set i (ls.set j l')} kv wv yv M xs/\XMoved part (ext W part (100+10*i+j)) W W':=by
 have hpB:=h.pB
 have h5:=h.five
 have hil:=(List.getElem?_eq_some_iff.1 hl).1
 have hll:=h.lrow ls (List.mem_of_getElem? hl)
 have hjl:j < ls.length:=by have:=(List.getElem?_eq_some_iff.1 hq).1;omega
 have R:=h.rest (part':=ext W part (100+10*i+j)) (100+10*i+j) k (fun g hg=>ext_old hg) (fun g _ hg=> .inr hg)
 have hllen:=h.llen
 refine⟨⟨h.box.kept k (by omega),(ext_old h.box.lt).trans h.pB,R.kinds (by omega),R.wrow (by omega),h.wlen,fun i' x' y' hx' hy'=>R.wat i' x' y' (by have h':i' < s.W.length:=(List.getElem?_eq_some_iff.1 hy').1;omega) hx' hy',by simpa using h.llen,fun ls' hls'=> ?_,h5,fun i' x' ls' hx' hl'=> ?_,fun i' x' hx'=>(R.iat i' x' (by omega) (.inl (by omega)) hx').relink hl hlj (fun _=>hlk),R.yrow (by omega),R.vals (by omega),fun i' x' y' hx' hy'=>R.tat i' x' y' (by have h':i' < s.W.length:=(List.getElem?_eq_some_iff.1 hy').1;omega) hx' hy'⟩,XMoved.of _ k (fun g hl hg=>by omega)⟩
 ·rcases List.mem_or_eq_of_mem_set hls' with h'|rfl
  ·exact h.lrow ls' h'
  ·simpa using hll
 ·have hl1:(s.links.set i (ls.set j l'))[i']?= some ls':=hl'
  by_cases e:i'=i
  ·subst e
   rw[hi]at hx'
   obtain rfl:=Option.some.inj hx'
   rw[List.getElem?_set_self hil]at hl1
   obtain rfl:=Option.some.inj hl1
   refine⟨qs,hqs.kept k (fun g hg e=>⟨by omega,(ext_old hg).trans e⟩),by simpa using hql,fun j' q' l hq' hl2=> ?_⟩
   by_cases e:j'=j
   ·subst e
    rw[hq]at hq'
    obtain rfl:=Option.some.inj hq'
    rw[List.getElem?_set_self hjl]at hl2
    obtain rfl:=Option.some.inj hl2
    refine⟨hij,hx.kept (Kept.refl (fun _=>False) W') (fun b _ hb=>⟨fun h=>h,?_⟩)⟩
    rcases hb with⟨h1,h2⟩|h1
    ·exact(ext_old h2).trans h1
    ·exact ext_new h1
   ·rw[List.getElem?_set_ne (fun e'=>e e'.symm)]at hl2
    exact(hqe j' q' l hq' hl2).kept k (fun g hg e=>⟨by omega,(ext_old hg).trans e⟩)
  ·rw[List.getElem?_set_ne (fun e'=>e e'.symm)]at hl1
   have:=h.lrow ls' (List.mem_of_getElem? hl1)
   exact R.lat i' x' ls' (by omega) (by omega) hx' hl1
end
def XGives(F:Nat->Prop)(w:World)(B:Nat)(r:RunS×Int)(e:Ending)(w':World):Prop:=e= .returned (.int .i64 r.2)/\XOK (fun b=>F b\/w.heap.size<=b) w' B r.1/\Kept F w w'
end Go.Proofs.YtfanaanofjhlkaaGreatDoor
namespace Go.Proofs.YtfanaanofjhlkaaGreatDoor
open Go Go.RowKit Go.Shelf
def SeqY{α:Type}(F:Fence)(n:Nat)(P:Program)(g:Nat)(lb:Array Value)(encs:α->Array Value)(X:Nat->Prop)(L:List α)(W:World):Prop:=
 ∀(l:Nat) (J:List α->World->Prop),(∀s A B,J s A->Below A.heap.size A B->J s B)->
  (∀pre x W1,J pre W1->W.heap.size<=W1.heap.size->pre++ [x] <+: L->YieldAt F (n - 1) P l (encs x) W1 fun e W'=>e= .returned (.bool true)/\J (pre++ [x]) W'/\Kept X W1 W')->
  J [] W->
  CallsIn F n P g (#[.func (.yield l) #[] #[]]++lb) W fun e W'=>(∃v,e= .returned v)/\J L W'
def roundOn{α:Type}(X:Nat->Prop)(I:List α->World->Prop)(xs:List α)(W:World):Exit->Act->World->Prop
 | .normal,_,W'=>Kept X W W'/\I xs W'
 |_,_,_=>False
section
variable {F:Fence} {n:Nat} {P:Program}
theorem range_lawY{α:Type}{g:Operand}{ps:Array Tmp}{assign body:Code}{Q:Exit->Act->World->Prop}{a:Act}{w:World}
  (hro:F.round=none) (h1:F.depth.isSome=true->1<=n) {gf:Nat} {lb:Array Value} (hg:a.eval g= .func (.func gf) #[] lb) (hFg:F.fn gf) (eg:∀args w,(callFunc gf args).run P w= .ok (.enter gf args) w)
  {encs:α->Array Value} {L:List α} (X:Nat->Prop) (hX:∀k,X k->k≠w.heap.size/\k≠w.heap.size+1)
  (hseq:∀W,Below w.heap.size w W->W.heap.size=w.heap.size+2->SeqY F (n - 1) P gf lb encs (fun k=>X k\/k=w.heap.size+1) L W)
  (hps:∀x,(encs x).size=ps.size)
  (I:List α->World->Prop) (hI:∀s A B,I s A->Kept (·= w.heap.size+1) A B->I s B) (h0:I [] w)
  (Ax:List α->α->Act->World->Prop) (hAx:∀pre x a' A B,Ax pre x a' A->Kept (·= w.heap.size+1) A B->Ax pre x a' B)
  (hassign:∀(l:Nat) (pre:List α) (x:α) (W:World) (K:Act->World->Prop),pre++ [x] <+: L->I pre W->w.heap.size+2<=W.heap.size->(∀a' W',Kept X W W'->I pre W'->Ax pre x a' W'->K a' W')->
   assign.wpIn (F.inRound l) (n - 1 - 1) P (Exit.then K (fun _ _ _=>False)) {tmps:=(ps.zip (encs x)).foldl (fun t (p,v)=>t.setIfInBounds p v) a.tmps,defers:=[]} W)
  (hbody:∀(l:Nat) (pre:List α) (x:α) (a':Act) (W:World),pre++ [x] <+: L->I pre W->Ax pre x a' W->w.heap.size+2<=W.heap.size->body.wpIn (F.inRound l) (n - 1 - 1) P (roundOn X I (pre++ [x]) W) a' W)
  (hdone:∀(D:Nat) (W:World),w.heap.size<=D->I L W->W.heap[D]?= some (.deferred (some []))->Q .normal {a with defers:={target:= .collected D,args:=#[]} :: a.defers} W) :
  (Code.rangeFunc g ps assign body).wpIn F n P Q a w:=by
 refine wpIn_rangeFunc fun fn hfn=> ?_
 rw[hro]
 obtain⟨rec,hrec⟩:∃rec:LoopState->Option Code->Loop,rec=fun st pe=>{state:=st,pending:=pe,fn,tmps:=a.tmps,params:=ps,assign,body,defers:=w.heap.size}:=⟨_,rfl⟩
 obtain⟨V,hV⟩:∃V,(w.alloc (.deferred (some []))).alloc (.loop (rec .ready none))=V:=⟨_,rfl⟩
 have vsize:V.heap.size=w.heap.size+2:=by rw[<-hV];simp
 have vbelow:Below w.heap.size w V:=by
  rw[<-hV];exact((Below.refl _ w).alloc (Nat.le_refl _) _).alloc (by simp) _
 have vloop:V.heap[w.heap.size+1]?= some (.loop (rec .ready none)):=by
  have h:=World.alloc_heap_new (w.alloc (.deferred (some []))) (.loop (rec .ready none))
  rw[World.size_alloc]at h;rw[<-hV];exact h
 have vdef:V.heap[w.heap.size]?= some (.deferred (some [])):=by
  rw[<-hV];exact(Below.heap_alloc _ _ _ (by simp)).trans (World.alloc_heap_new w _)
 refine⟨w.heap.size+1,[{target:= .collected w.heap.size,args:=#[]}],V,{target:= .fn (.func gf) lb,args:=#[.func (.yield (w.heap.size+1)) #[] #[]]},V,gf,
  #[.func (.yield (w.heap.size+1)) #[] #[]]++lb,V,?_,?_,?_,?_,h1,?_⟩
 ·rw[<-hV,hrec];exact run_enterLoop_outer _ _ _ _ _
 ·simp only[resolve,hg];simp[go_sem]
 ·intro f' hf';simp[Target.leads]at hf';subst hf';exact hFg
 ·simp[invoke,go_sem,eg]
 have vkept:Kept (·= w.heap.size+1) w V:=Kept.of_below vbelow (fun k h1 h2=>by omega)
 refine(hseq V vbelow vsize (w.heap.size+1)
   (fun pre W=>I pre W/\W.heap[w.heap.size+1]?= some (.loop (rec .ready none))/\W.heap[w.heap.size]?= some (.deferred (some [])))
   (fun s A B hs hb=>⟨hI s A B hs.1 (Kept.of_below hb (fun k h1 h2=>by omega)),(hb.block _ (Array.getElem?_eq_some_iff.1 hs.2.1).1).trans hs.2.1,(hb.block _ (Array.getElem?_eq_some_iff.1 hs.2.2).1).trans hs.2.2⟩)
   ?_ ⟨hI _ _ _ h0 vkept,vloop,vdef⟩).mono ?_
 ·rintro pre x W ⟨hi,hl,hk⟩ hsz hxL
  rw[vsize]at hsz
  have hy:=run_yield (P:=P) (args:=encs x) hl (by rw[hrec];exact hps x)
  rw[hrec]at hy
  refine⟨fn,_,assign,body,hy,roundIn_of_wpIn hfn (hassign _ pre x W _ hxL hi hsz fun a' U kU iU aU=> ?_)⟩
  clear hy
  have n1:¬X (w.heap.size+1):=fun h=>(hX _ h).2 rfl
  have n0:¬X w.heap.size:=fun h=>(hX _ h).1 rfl
  have ul:=kU.heap hl n1
  have uk:=kU.heap hk n0
  have usz:w.heap.size+2<=U.heap.size:=Nat.le_trans hsz kU.size
  refine⟨_,run_beginRound ul (by rw[hrec]),?_⟩
  obtain⟨T,hT⟩:∃T,U.putObj (w.heap.size+1) (.loop {rec .ready none with state:= .busy})=T:=⟨_,rfl⟩
  rw[hT]
  have kT:Kept (·= w.heap.size+1) U T:=by rw[<-hT];exact Kept.putObj _ _ _ rfl
  have tl:T.heap[w.heap.size+1]?= some (.loop {rec .ready none with state:= .busy}):=by rw[<-hT];exact World.putObj_heap_same (by omega)
  have tk:T.heap[w.heap.size]?= some (.deferred (some [])):=kT.heap uk (by omega)
  refine wpIn_mono (hbody _ pre x a' T hxL (hI _ _ _ iU kT) (hAx _ _ _ _ _ aU kT) (Nat.le_trans usz kT.size)) ?_
  rintro e a3 Z hp
  cases e with
  |normal=>
   obtain⟨kZ,hi3⟩:=hp
   have zl:=kZ.heap tl n1
   have zk:=kZ.heap tk n0
   have zr:=run_endRound (P:=P) none zl
   rw[hrec]at zr zl
   refine⟨_,_,zr,rfl,⟨hI _ _ _ hi3 (Kept.putObj _ _ _ rfl),?_,(World.putObj_heap_other (by omega)).trans zk⟩,?_⟩
   ·rw[hrec];exact World.putObj_heap_same (Array.getElem?_eq_some_iff.1 zl).1
   ·exact(((kU.mono (fun k _ h=> .inl h)).trans (kT.mono (fun k _ h=> .inr h))).trans (kZ.mono (fun k _ h=> .inl h))).trans (Kept.putObj _ _ _ (.inr rfl))
  |ret=>exact hp.elim
  |exit id=>exact hp.elim
  |goto t=>exact hp.elim
  |panic ch=>exact hp.elim
  |outgrown=>exact hp.elim
 ·rintro e Z ⟨⟨v,rfl⟩,hi,hl,hk⟩
  have hlt:=(Array.getElem?_eq_some_iff.1 hl).1
  exact⟨none,_,by have:=run_endLoop (P:=P) hl (by rw[hrec];simp);rw[hrec]at this;exact this,hdone _ _ (Nat.le_refl _) (hI _ _ _ hi (Kept.putObj _ _ _ rfl)) ((World.putObj_heap_other (by omega)).trans hk)⟩
end
attribute [local go_sem] Oper.semAt_some
set_option maxHeartbeats 1000000 in
set_option maxRecDepth 100000 in
theorem children1_seqY(n:Nat)(Bp Bt:Nat)(X ok:Nat->Prop)(a:Option Addr)(cap:Nat)(kind arg:Int)(ks:List KindS)(t:TaskS)(L:List TaskS)(hL:children ks t=L)(W:World)
  (hp:BoxAt W Bp 41 #[.slice a ks.length cap,.int .i64 kind,.int .i64 arg]) (ht:BoxAt W Bt 62 #[.string t.id,.int .i64 t.kind,.int .i64 t.arg])
  (hk:KindsAt ok W (.slice a ks.length cap) ks) (hX:∀b,ok b->¬X b) (hXt:¬X Bt)
  (hprog:progB ks kind arg=true) (h0:0<=t.kind) (h1:t.kind < ks.length) (h2:0<=t.arg) (h3:t.arg<=12) (h4:t.id.size<=12) :
  SeqY Fence.wide n Tryz.prog 170 #[.pointer (some ⟨Bp,0,none⟩),.pointer (some ⟨Bt,0,none⟩)] (fun c:TaskS=>#[taskV c]) X L W:=by
 intro l J hJ hY hJ0
 obtain⟨id,k,x⟩:=t
 obtain⟨a',cap',hs,hc⟩:=hk
 simp only[Value.slice.injEq]at hs
 obtain⟨rfl,-,rfl⟩:=hs
 simp only at h0 h1 h2 h3 h4 ht
 obtain⟨j,rfl⟩:=Int.eq_ofNat_of_zero_le h0
 have hj:j < ks.length:=by omega
 obtain⟨c,hcc⟩:∃c,ks[j]?= some c:=⟨_,List.getElem?_eq_getElem hj⟩
 obtain⟨b,o,v,rfl,hok,hbw,c0,c1,c2,hkk⟩:=hc j c hcc
 obtain⟨a',cap',rfl,h'⟩:=hkk
 have hkb:kindB ks.length c=true:=by
  simp[progB]at hprog
  exact hprog.1.1.2 c (List.mem_of_getElem? hcc)
 have hlen:ks.length<=5:=by simp[progB,rangeB]at hprog;omega
 have hkl:c.kids.length<=3:=by simp[kindB]at hkb;exact hkb.1.2
 have hkids:∀d∈c.kids,1<=d.less/\d.less<=9/\0<=d.kind/\d.kind < ks.length:=by
  intro d hd;simp[kindB,kidB,numB,rangeB]at hkb;have:=hkb.2 d hd;omega
 have HC:Hid (L=childrenFrom id x 0 c.kids):=by rw[<-hL];simp[Hid,children,kindAt,hcc]
 have p0:=hp.cell (o:=0) rfl
 have t0:=ht.cell (o:=0) rfl
 have t1:=ht.cell (o:=1) rfl
 have t2:=ht.cell (o:=2) rfl
 clear hprog hkb hc hL
 refine callsIn_of_wp Tryz.func170 rfl trivial ?_ rfl
 simp only[Tryz.ntmps170,List.size_toArray,List.length_cons,List.length_nil,Nat.reduceAdd,Nat.reduceSub,Array.replicate_succ,Array.replicate_zero,List.push_toArray,List.append_toArray,List.nil_append,List.cons_append]
 gi_wp2
 gi_loopw [15] (fun i wr=>∃(m:Nat) (pre:List TaskS),m<=c.kids.length/\i= .int .i64 m/\L=pre++childrenFrom id x m (c.kids.drop m)/\J pre wr/\Kept (fun k=>X k\/W.heap.size<=k) W wr)
  (fun i _=>c.kids.length - (intOf i).toNat)
 case atStart=>exact⟨0,[],Nat.zero_le _,rfl,HC.out,hJ0,Kept.refl _ _⟩
 case round=>
  obtain⟨m,pre,hm,rfl,hpre,hJs,hkw⟩:=hrel
  have HP:Hid (L=pre++childrenFrom id x m (c.kids.drop m)):=hpre
  clear hpre
  have nt:¬(X Bt\/W.heap.size<=Bt):=fun h=>h.elim hXt (fun h=>Nat.not_lt_of_le h ht.lt)
  have u0:=(ht.kept hkw nt).cell (o:=0) rfl
  have u1:=(ht.kept hkw nt).cell (o:=1) rfl
  have u2:=(ht.kept hkw nt).cell (o:=2) rfl
  have hbt:=(ht.kept hkw nt).lt
  by_cases hlt:m < c.kids.length
  ·obtain⟨d,hd⟩:∃d,c.kids[m]?= some d:=⟨_,List.getElem?_eq_getElem hlt⟩
   obtain⟨b',o',rfl,hok',hbw',d0,d1⟩:=h' m d hd
   have nb:¬(X b'\/W.heap.size<=b'):=fun h=>h.elim (hX b' hok') (fun h=>Nat.not_lt_of_le h hbw')
   have f0:=(hkw.cell (p:=⟨b',o'+m*2,none⟩) hbw' nb).trans d0
   have f1:=(hkw.cell (p:=⟨b',o'+m*2+1,none⟩) hbw' nb).trans d1
   obtain⟨hl1,hl9,hk0,hk1⟩:=hkids d (List.mem_of_getElem? hd)
   have v0:=fun o=>cell_alloc o u0
   have v2:=fun o=>cell_alloc o u2
   have HG:Hid (childrenFrom id x m (c.kids.drop m)=if d.less<=x then⟨kidId id m,d.kind,x - d.less⟩ :: childrenFrom id x (m+1) (c.kids.drop (m+1))else childrenFrom id x (m+1) (c.kids.drop (m+1))):=childrenFrom_get id x c.kids m d hd
   by_cases hless:d.less<=x
   ·gi_wp2
    refine wpIn_wide.2 ?_
    have g0:=(BoxAt.new wr 53 #[Value.int IntKind.i64 d.kind,Value.int IntKind.i64 d.less]).cell (o:=0) rfl
    have g1:=(BoxAt.new wr 53 #[Value.int IntKind.i64 d.kind,Value.int IntKind.i64 d.less]).cell (o:=1) rfl
    have z1:¬9223372036854775807 < id.size+1:=by omega
    have z2:id.size < 9223372036854775807:=by omega
    have z3:IntKind.i64.wrap (x - d.less)=x - d.less:=IntWalk.i64_in _ (by omega)
    go_region_held3 (fun w'=>w'.cell? ⟨Bt,0,none⟩=some (.string id)/\w'.cell? ⟨Bt,2,none⟩=some (.int .i64 x)/\w'.cell? ⟨wr.heap.size,0,none⟩=some (.int .i64 d.kind)/\w'.cell? ⟨wr.heap.size,1,none⟩=some (.int .i64 d.less)) (go_keep)
     (first|(go_at_call 171;refine(itoa_calls m (by omega) _).mono ?_;rintro e w' ⟨rfl,rfl⟩))
    all_goals
     obtain⟨V,hV⟩:∃V,((wr.alloc (Obj.cells #[Value.int IntKind.i64 d.kind,Value.int IntKind.i64 d.less] 53)).alloc (Obj.cells #[Value.string (id++{data:=#[digit m]}),Value.int IntKind.i64 d.kind,Value.int IntKind.i64 (x - d.less)] 62)).drew=V:=⟨_,rfl⟩
     have hbV:Below wr.heap.size wr V:=by
      rw[<-hV];exact(((Below.refl _ wr).alloc (Nat.le_refl _) _).alloc (by simp) _).drew
     have bx:BoxAt V (wr.heap.size+1) 62 #[Value.string (id++{data:=#[digit m]}),Value.int IntKind.i64 d.kind,Value.int IntKind.i64 (x - d.less)]:=by
      rw[<-hV];have:=BoxAt.new (wr.alloc (Obj.cells #[Value.int IntKind.i64 d.kind,Value.int IntKind.i64 d.less] 53)) 62 #[Value.string (id++{data:=#[digit m]}),Value.int IntKind.i64 d.kind,Value.int IntKind.i64 (x - d.less)]
      rw[World.size_alloc]at this;exact this
     have y0:=bx.cell (o:=0) rfl
     have y1:=bx.cell (o:=1) rfl
     have y2:=bx.cell (o:=2) rfl
     rw[hV]
     clear hV
     obtain⟨q,hq⟩:∃q:TaskS,q=⟨kidId id m,d.kind,x - d.less⟩:=⟨_,rfl⟩
     have hP2:Hid (L=(pre++ [q])++childrenFrom id x (m+1) (c.kids.drop (m+1))):=by
      refine HP.out.trans ?_
      rw[HG.out,if_pos hless];simp[hq]
     obtain⟨fn,tmps,assign,body,hy,hR⟩:=hY pre q V (hJ _ _ _ hJs hbV) (Nat.le_trans hkw.size hbV.size) ⟨_,hP2.out.symm⟩
     rw[hq]at hy
     clear hq
     dsimp only[taskV,kidId]at hy
     gi_wp2
     refine⟨fun h=>(by cases h),?_⟩
     refine hR.mono ?_
     rintro e W3 ⟨rfl,hJ3,hk3⟩
     ·gi_wp2
      go_roundw
      case rel=>exact⟨m+1,_,by omega,by go_num,hP2.out,hJ3,(hkw.trans (Kept.of_below hbV (fun k _ h=> .inr (Nat.le_trans hkw.size h)))).trans (hk3.mono (fun k _ h=> .inl h))⟩
      case measure=>simp[intOf];omega
   ·have hP2:Hid (L=pre++childrenFrom id x (m+1) (c.kids.drop (m+1))):=by
     refine HP.out.trans ?_
     rw[HG.out,if_neg hless]
    gi_wp2
    go_roundw
    case rel=>exact⟨m+1,pre,by omega,by go_num,hP2.out,hJ _ _ _ hJs ((Below.refl _ wr).alloc (Nat.le_refl _) _),hkw.trans (Kept.alloc _ _ _)⟩
    case measure=>simp[intOf];omega
  ·have hP2:Hid (L=pre):=by
    refine HP.out.trans ?_
    rw[List.drop_eq_nil_of_le (by omega)];simp[childrenFrom]
   gi_wp2
   go_end0
   exact⟨⟨_,rfl⟩,by rw[hP2.out];exact hJs⟩
set_option maxHeartbeats 1000000 in
set_option maxRecDepth 100000 in
theorem values1_seqY(n:Nat)(Bs:Nat)(X:Nat->Prop)(v:Value)(l0:List TaskS)(W:World)(hs:BoxAt W Bs 58 #[v])(hv:ListAt 3 taskEnc W v l0)(hXv:∀g o m c,v= .slice (some ⟨g,o,none⟩) m c->0 < m->¬X g)(hl:l0.length<=100000000) :
  SeqY Fence.wide n Tryz.prog 173 #[.pointer (some ⟨Bs,0,none⟩)] (fun c:TaskS=>#[taskV c]) X l0 W:=by
 intro l J hJ hY hJ0
 obtain⟨a,cap,rfl,hc⟩:=hv
 have s0:=hs.cell (o:=0) rfl
 have HC:=hid_of hc
 have HXV:=hid_of hXv
 clear hc hXv
 refine callsIn_of_wp Tryz.func173 rfl trivial ?_ rfl
 simp only[Tryz.ntmps173,List.size_toArray,List.length_cons,List.length_nil,Nat.reduceAdd,Nat.reduceSub,Array.replicate_succ,Array.replicate_zero,List.push_toArray,List.append_toArray,List.nil_append,List.cons_append]
 gi_wp2
 gi_loopw [7] (fun i wr=>∃m:Nat,m<=l0.length/\i= .int .i64 m/\J (l0.take m) wr/\Kept (fun k=>X k\/W.heap.size<=k) W wr) (fun i _=>l0.length - (intOf i).toNat)
 case atStart=>exact⟨0,Nat.zero_le _,rfl,by simpa using hJ0,Kept.refl _ _⟩
 case round=>
  obtain⟨m,hm,rfl,hJs,hkw⟩:=hrel
  rename World=>wr
  have HJS:=hid_of hJs
  have HKW:=hid_of hkw
  have szr:=hkw.size
  clear hJs hkw
  by_cases hlt:m < l0.length
  ·obtain⟨c,hcc⟩:∃c,l0[m]?= some c:=⟨_,List.getElem?_eq_getElem hlt⟩
   obtain⟨g,o,rfl,hgl,hce⟩:=HC.out m c hcc
   have nX:¬(X g\/W.heap.size<=g):=fun h=>h.elim (HXV.out g o _ _ rfl (by omega)) (fun h=>by omega)
   have e0:wr.cell? ⟨g,o+m*3,none⟩=some (.string c.id):=(HKW.out.cell (p:=⟨g,o+m*3,none⟩) hgl nX).trans (hce 0 _ rfl)
   have e1:wr.cell? ⟨g,o+m*3+1,none⟩=some (.int .i64 c.kind):=(HKW.out.cell (p:=⟨g,o+m*3+1,none⟩) hgl nX).trans (hce 1 _ rfl)
   have e2:wr.cell? ⟨g,o+m*3+2,none⟩=some (.int .i64 c.arg):=(HKW.out.cell (p:=⟨g,o+m*3+2,none⟩) hgl nX).trans (hce 2 _ rfl)
   have j1:(0:Int)<=(m:Int):=by omega
   have j2:(m:Int) < (l0.length:Int):=by omega
   have HT:Hid (l0.take (m+1)=l0.take m++ [c]):=by show _=_;rw[List.take_add_one,hcc];rfl
   clear hce nX hcc
   obtain⟨V,hV⟩:∃V,wr.alloc (Obj.cells #[.string c.id,.int .i64 c.kind,.int .i64 c.arg] 62)=V:=⟨_,rfl⟩
   have hbV:Below wr.heap.size wr V:=by rw[<-hV];exact(Below.refl _ _).alloc (Nat.le_refl _) _
   have bx:BoxAt V wr.heap.size 62 #[.string c.id,.int .i64 c.kind,.int .i64 c.arg]:=by rw[<-hV];exact BoxAt.new wr _ _
   have y0:=bx.cell (o:=0) rfl
   have y1:=bx.cell (o:=1) rfl
   have y2:=bx.cell (o:=2) rfl
   obtain⟨fn,tmps,assign,body,hy,hR⟩:=hY (l0.take m) c V (hJ _ _ _ HJS.out hbV) (Nat.le_trans szr hbV.size) (by rw[<-HT.out];exact List.take_prefix _ _)
   dsimp only[taskV]at hy
   gi_wp2
   refine⟨fun h=>(by cases h),?_⟩
   refine hR.mono ?_
   rintro e W3 ⟨rfl,hJ3,hk3⟩
   gi_wp2
   go_roundw
   case rel=>exact⟨m+1,by omega,by go_num,by rw[HT.out];exact hJ3,(HKW.out.trans (Kept.of_below hbV (fun k _ h=> .inr (Nat.le_trans szr h)))).trans (hk3.mono (fun k _ h=> .inl h))⟩
   case measure=>simp[intOf];omega
  ·obtain rfl:l0.length=m:=by omega
   gi_wp2
   go_end0
   exact⟨⟨_,rfl⟩,by have:=HJS.out;rwa [List.take_length]at this⟩
end Go.Proofs.YtfanaanofjhlkaaGreatDoor
namespace Go.Proofs.YtfanaanofjhlkaaGreatDoor
open Go Go.RowKit
set_option maxHeartbeats 4000000 in
set_option maxRecDepth 100000 in
theorem put_x(m:MsgS)(b:Nat){part:Nat->Nat}{w:World}{B M:Nat}{s:RunS}{kv wv yv:Value}{xs:List XW}(h:XAtO part w B s kv wv yv M xs)(hn:s.way.length<=1000)(hm:BoxAt w b 124 (msgCells m)) :
  Calls Tryz.prog 153 #[.pointer (some ⟨B,5,none⟩),.slice (some ⟨b,0,none⟩) 1 1] w fun e w'=>∃v,e= .returned v/\(v= .tuple #[]/\∃part' yv',XAtO part' w' B (wayS s m) kv wv yv' M xs/\XMoved part part' w w'/\Kept (fun g=>g=B\/part g=2) w w'):=by
 obtain⟨iM,hiM,hzM0,hzM1,hzM2⟩:=info_parts infoMessage
 obtain⟨ya,yc,hyf⟩:=row_form h.yrow.1
 subst hyf
 obtain⟨Z,hZ⟩:∃Z,w.alloc (Obj.cells (msgCells m) 124)=Z:=⟨_,rfl⟩
 have hbZ:Below w.heap.size w Z:=by rw[<-hZ];exact(Below.refl _ _).alloc (Nat.le_refl _) _
 have bM:BoxAt Z w.heap.size 124 (msgCells m):=by rw[<-hZ];exact BoxAt.new w _ _
 have SZ:Hid (Z.heap.size=w.heap.size+1):=by show _=_;rw[<-hZ];simp
 have bR:=h.box.below hbZ h.box.lt
 have HH:=hid_of h
 have HRY:=hid_of (row_later h.yrow.1 hbZ)
 have HBZ:=hid_of hbZ
 have HBR:=hid_of bR
 have HBM:=hid_of bM
 have hbl:=h.box.lt
 have hbz:B < Z.heap.size:=bR.lt
 have HNE:Hid ((Value.slice ya s.way.length yc).ownBlock≠some B):=row_ne h.yrow.1 h.box (by decide)
 obtain⟨c0,c1,c2,c3,c4,c5,c6,c7,c8,c9,c10,c11,c12,c13,c14⟩:=cells15 hm
 clear bM bR hbZ h hm
 go_enter Tryz.func153,Tryz.ntmps153
 go_wp2_with fail
 go_loopw [8] (fun iv wr=>(iv= .int .i64 0/\w=wr)\/(iv= .int .i64 1/\∃part' yv',XAtO part' wr B (wayS s m) kv wv yv' M xs/\XMoved part part' w wr/\Kept (fun g=>g=B\/part g=2) w wr)) (fun iv _=>1 - (intOf iv).toNat)
 case atStart=>exact .inl ⟨rfl,rfl⟩
 case round=>
  rename World=>wr
  rcases hrel with⟨rfl,rfl⟩|⟨rfl,h1⟩
  ·go_upto_region 3 with fail
   have b4:=HBR.out.cell (o:=5) rfl
   have f4:=HBR.out.frozen 5
   clear hZ
   by_cases hlt:s.way.length < 60
   ·have HS:Hid (wayS s m={s with way:=s.way++ [m]}):=by show _=_;simp[wayS,hlt]
    have l1:(s.way.length:Int) < 60:=by omega
    obtain⟨m0,m1,m2,m3,m4,m5,m6,m7,m8,m9,m10,m11,m12,m13,m14⟩:=cells15 HBM.out
    clear c0 c1 c2 c3 c4 c5 c6 c7 c8 c9 c10 c11 c12 c13 c14
    go_upto_region 4 with fail
    go_region_law (refine step_append_lies _ (by rfl) _ _ _ (by rfl) 0 124 iM _ 15 128 Tryz.underlying97 hiM hzM0 hzM1 hzM2 rfl (by omega) (.slice ya s.way.length yc) s.way.length (s.way.flatMap msgEnc) (by rfl) ((HRY.out.alloc _).drew) ⟨Z.heap.size,0,none⟩ 1 1 (msgEnc m) (by rfl) (by rfl) (World.news_of_block (cs:=msgCells m) (t:=124) (fr:=(0,0)) (heap_alloc_new Z _)) (by simp[msgEnc,Value.oneCell']) (by omega) (by unfold maxLen;omega) (by omega) (by simp) (Z.heap.size+1) (by simp) ?_;intro g cp w1 hown1 hgrow hat hlt1;have hbx:BoxAt w1 B 105 (xrunCells s kv wv (.slice ya s.way.length yc) M):=(hgrow.block B (by simp;have:=SZ.out;omega) (fun e=>HNE.out e.symm)).trans (HBR.out.alloc _);have c4:=hbx.cell (o:=5) rfl;have e4:=hbx.frozen 5)
    all_goals
     go_wp2_with fail
     go_roundw
     case rel=>
      refine .inr ⟨by go_num,?_⟩
      have kG:Kept (fun g=>g=B\/part g=2) w w1:=(((Kept.of_below HBZ.out (fun k h1 h2=>absurd h1 (by omega))).trans (Kept.alloc _ Z _)).drew).trans (Kept.grown hgrow (fun r e=> .inr (HH.out.yrow.2 r e)))
      have kS:Kept (·= B) w1 (w1.setCell ⟨B,5,none⟩ (.slice (some ⟨g,0,none⟩) (s.way.length+1) cp)):=(Kept.refl _ _).setCell (.inl (by rfl)) _
      rw[HS.out]
      obtain⟨h1,h2⟩:=HH.out.reway (way':=s.way++ [m]) (kG.trans (kS.mono (fun _ _ h=> .inl h))) (hbx.setAt 5 _) (by
       rw[List.flatMap_append,List.length_append,List.length_singleton]
       simpa using row_kept hown1 kS (fun g' e h=>by subst h;exact row_ne hown1 hbx (by decide) e) (Nat.le_refl _)) (fun g' e=>by
       obtain rfl:g=g':=by simpa[Value.ownBlock]using e
       rcases hat with h|h
       ·exact .inl ⟨HH.out.yrow.2 g h,(HH.out.yrow.1.lt g h).2⟩
       ·exact .inr (by have:=SZ.out;omega))
      exact⟨_,_,h1,h2,kG.trans (kS.mono (fun _ _ h=> .inl h))⟩
     case measure=>simp[intOf]
   ·have HS:Hid (wayS s m=s):=by show _=_;simp[wayS,hlt]
    have l1:¬(s.way.length:Int) < 60:=by omega
    clear c0 c1 c2 c3 c4 c5 c6 c7 c8 c9 c10 c11 c12 c13 c14
    go_wp2_with fail
    go_roundw
    case rel=>
     refine .inr ⟨by go_num,?_⟩
     obtain⟨h1,h2⟩:=HH.out.later HBZ.out
     rw[HS.out]
     exact⟨_,_,h1,h2,Kept.of_below HBZ.out (fun k h1 h2=>absurd h1 (by omega))⟩
    case measure=>simp[intOf]
  ·have H1:=hid_of h1
   clear h1
   go_wp2_with fail
   go_end0
   exact⟨_,rfl,rfl,H1.out⟩
theorem has_calls(ya:Option Addr)(n yc:Nat)(i:Int)(w:World):Calls Tryz.prog 155 #[.slice ya n yc,.int .i64 i] w fun e w'=>e= .returned (.bool (decide (0<=i/\i < (n:Int))))/\w=w':=by
 by_cases h0:0<=i
 ·obtain⟨b,hb⟩:∃b,decide (i < (n:Int))=b:=⟨_,rfl⟩
  have HR:Hid (decide (0<=i/\i < (n:Int))=b):=by show _=_;rw[<-hb];simp[h0]
  go_enter Tryz.func155,Tryz.ntmps155
  go_wp2_with fail
  go_ret
  rw[HR.out]
  exact⟨rfl,rfl⟩
 ·have HR:Hid (decide (0<=i/\i < (n:Int))=false):=by show _=_;simp[h0]
  have d0:decide (0<=i)=false:=decide_eq_false h0
  go_enter Tryz.func155,Tryz.ntmps155
  go_wp2_with fail
  go_ret
  refine⟨?_,rfl⟩
  first|rfl|(rw[HR.out];rfl)
end Go.Proofs.YtfanaanofjhlkaaGreatDoor
