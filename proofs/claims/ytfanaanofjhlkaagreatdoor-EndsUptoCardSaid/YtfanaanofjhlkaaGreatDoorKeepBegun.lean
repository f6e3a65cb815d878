import Derived.Test.YtfanaanofjhlkaaGreatDoorKeepTold
import Derived.Test.YtfanaanofjhlkaaGreatDoorRaw
import Derived.Test.YtfanaanofjhlkaaGreatDoorGather
import Derived.BigQuiet
import Derived.Deep.RegionLaw
namespace Go.Proofs.YtfanaanofjhlkaaGreatDoor
open Go Go.RowKit
def caseV(wk rm md:Int)(a:Option Addr)(len cap:Nat)(kind arg:Int):Array Value:=#[.int .i64 wk,.int .i64 rm,.int .i64 md,.slice a len cap,.int .i64 kind,.int .i64 arg]
def BegunGives(w:World)(e:Ending)(w':World):Prop:=∃G own B s ka kc av,e= .returned (.pointer (some ⟨G,0,none⟩))/\GameAt w.heap.size own w' G B s ka kc av (.slice none 0 0) [] false false/\Whole 0 s/\Play [] s/\(allTasks s.ks s.kind s.arg).length<=200/\Below w.heap.size w w'
def smallKs:List KindS:=[⟨1,2,[⟨0,1⟩,⟨0,2⟩]⟩]
theorem program_nil(arg:Int)(w:World)(harg: -9223372036854775808<=arg/\arg<=9223372036854775807) :
  Calls Tryz.prog 33 #[.slice none 0 0,.int .i64 0,.int .i64 arg] w fun e w'=>∃va,e= .returned (.agg #[.slice va 1 1,.int .i64 0,.int .i64 (pickS arg 6)])/\KindsAt (fun b=>w.heap.size<=b) w' (.slice va 1 1) smallKs/\Below w.heap.size w w':=by
 have h0:((0:Nat):Int) / 2=0:=by omega
 obtain⟨r0,r1⟩:=pickS_range arg 6 (by omega)
 go_enter Tryz.func33,Tryz.ntmps33
 go_wp2_with (go_at_call 34;refine(pick_calls _ _ harg (by omega) (by omega) _).mono ?_;rintro e w' ⟨rfl,rfl⟩)
 refine bodyPost_ret (v:= .agg #[.slice (some ⟨w.heap.size+1+1,0,none⟩) 1 1,.int .i64 0,.int .i64 (pickS arg 6)]) (by simp[results,Tryz.results33,go_sem]) rfl ⟨_,rfl,?_,?_⟩
 ·refine KindsRow.at (l:=[((⟨1,2,[⟨0,1⟩,⟨0,2⟩]⟩:KindS),Value.slice (some ⟨w.heap.size+1,0,none⟩) 2 2)]) ⟨?_,?_⟩
  ·exact row_new _ (w.heap.size+1+1) w.heap.size 56 3 1 _ _ (by simp) (by omega) rfl rfl (by unfold maxLen;omega)
  ·intro p hp
   simp only[List.mem_singleton]at hp
   subst hp
   exact(row_new _ (w.heap.size+1) w.heap.size 53 2 2 _ _ (by simp) (by omega) rfl rfl (by unfold maxLen;omega)).alloc _
 ·exact(((Below.refl _ _).alloc (Nat.le_refl _) _).alloc (by simp) _).alloc (by simp;omega) _
theorem small_unfold{x:Int}(h0:0<=x)(h1:x<=5):(unfoldS smallKs 0 x).1=0:=by
 obtain rfl|rfl|rfl|rfl|rfl|rfl:x=0\/x=1\/x=2\/x=3\/x=4\/x=5:=by omega
 all_goals decide
theorem small_unfold2{x:Int}(h0:0<=x)(h1:x<=5):unfoldS smallKs 0 x=(0,allTasks smallKs 0 x):=by
 have h:=small_unfold h0 h1
 unfold unfoldS at h ⊢
 split at h
 ·rename_i hp
  rw[if_pos hp]
  split at h
  ·rename_i hq
   rw[if_pos hq]
  ·cases h
 ·cases h
def ReadyAt(w V:World)(G:Nat)(n1 n2 n3:Int)(lv:Value)(W:World):Prop:=
 ∃(ks:List KindS) (k x:Int) (va:Option Addr) (vcap:Nat) (K:Nat->Prop),(unfoldS ks k x).1=0/\BoxAt W G 45 #[.pointer none,.int .i64 n1,.int .i64 n2,.int .i64 n3,.slice va ks.length vcap,.int .i64 k,.int .i64 x,.slice none 0 0,.slice none 0 0,.bool false,.bool false]/\KindsAt K W (.slice va ks.length vcap) ks/\¬K G/\(∀b,K b->w.heap.size<=b)/\W.ownsRow w.heap.size 92 2 lv (allTasks ks k x).length (taskCells ks (allTasks ks k x))/\(∀g,lv.ownBlock=some g->¬K g/\g≠G)/\Below V.heap.size V W
theorem tasks_new0{n1 n2 n3 k x:Int}(ks:List KindS)(h:2<=n1):tasksS (newS n1 n2 n3 ks k x) 0=([⟨⟨#[]⟩,k,x⟩],0):=by
 unfold tasksS newS
 dsimp only
 rw[if_neg (by omega)]
 rfl
theorem tasks_new1{n1 n2 n3 k x:Int}(ks:List KindS)(h:2<=n1):tasksS (newS n1 n2 n3 ks k x) 1=([],0):=by
 unfold tasksS newS
 dsimp only
 rw[if_neg (by omega)]
 obtain⟨m,hm⟩:∃m,n1.toNat - 1=m+1:=⟨n1.toNat - 2,by omega⟩
 rw[hm,List.replicate_succ]
 rfl
theorem game_new{w wc w8:World}{G B L:Nat}{n1 n2 n3 k x:Int}{ks:List KindS}{va la:Option Addr}{vcap lc:Nat}{K:Nat->Prop}(bR:BoxAt wc G 45 #[.pointer none,.int .i64 n1,.int .i64 n2,.int .i64 n3,.slice va ks.length vcap,.int .i64 k,.int .i64 x,.slice none 0 0,.slice none 0 0,.bool false,.bool false])(hkR:KindsAt K wc (.slice va ks.length vcap) ks)(hKG:¬K G)(hKb:∀b,K b->w.heap.size<=b)(hG:w.heap.size<=G)(hrow:wc.ownsRow w.heap.size 92 2 (.slice la L lc) L (taskCells ks (allTasks ks k x)))(hL:(allTasks ks k x).length=L)(hro:∀g,(Value.slice la L lc).ownBlock=some g->¬K g/\g≠G)(hx8:XOK (fun b=>wc.heap.size<=b) w8 B (newS n1 n2 n3 ks k x))(hb8:Below wc.heap.size wc w8):∃own,GameAt w.heap.size own ((w8.setCell ⟨G,7,none⟩ (.slice la L lc)).setCell ⟨G,0,none⟩ (.pointer (some ⟨B,0,none⟩))) G B (newS n1 n2 n3 ks k x) va vcap (.slice la L lc) (.slice none 0 0) [] false false:=by
 classical
 have hGl:=bR.lt
 have s8:=hb8.size
 have k9:Kept (·= G) w8 ((w8.setCell ⟨G,7,none⟩ (.slice la L lc)).setCell ⟨G,0,none⟩ (.pointer (some ⟨B,0,none⟩))):=((Kept.refl (·= G) w8).setCell (.inl (by rfl)) _).setCell (.inl (by rfl)) _
 have b9:=((bR.below hb8 bR.lt).setAt 7 (.slice la L lc)).setAt 0 (.pointer (some ⟨B,0,none⟩))
 generalize (w8.setCell ⟨G,7,none⟩ (.slice la L lc)).setCell ⟨G,0,none⟩ (.pointer (some ⟨B,0,none⟩))=w9 at k9 b9 ⊢
 have kall:Kept (fun b=>b=G\/wc.heap.size<=b) wc w9:=(Kept.of_below hb8 (X:=fun b=>b=G\/wc.heap.size<=b) (fun _ _ h=> .inr h)).andThen k9 (fun _ _ h=> .inl h)
 have eall:allS (newS n1 n2 n3 ks k x)=pairsOf ks (allTasks ks k x):=rfl
 obtain⟨own,hown⟩:∃own:Nat->Nat,own=fun b=>if b=G then 1 else if wc.heap.size<=b then 2 else if K b then 3 else if(Value.slice la L lc).ownBlock=some b then 4 else 0:=⟨_,rfl⟩
 refine⟨own,⟨fun b hb=> ?_,b9,?_,?_,?_,?_,fun g e=> ?_,World.ownsRow_nil _ _ _ _,fun g e=> ?_⟩⟩
 ·have hw:w.heap.size<=wc.heap.size:=by omega
  rw[hown]at hb
  dsimp only at hb
  by_cases h1:b=G
  ·omega
  ·by_cases h2:wc.heap.size<=b
   ·omega
   ·by_cases h3:K b
    ·exact hKb b h3
    ·by_cases h4:(Value.slice la L lc).ownBlock=some b
     ·exact(hrow.lt b h4).1
     ·simp[h1,h2,h3,h4]at hb
 ·rw[hown];simp
 ·refine hx8.kept k9 (fun b _ h=>⟨fun e=>by omega,?_⟩)
  rw[hown]
  have:b≠G:=by omega
  simp[this,h]
 ·refine(hkR.below.kept kall (fun b h1 h2=> ?_)).mono (fun b hb=> ?_)
  ·rcases h2 with h2|h2
   ·exact hKG (h2 ▸h1.1)
   ·omega
  ·have h1:b≠G:=fun e=>hKG (e ▸hb.1)
   have h2:¬wc.heap.size<=b:=by omega
   rw[hown]
   simp[h1,h2,hb.1]
 ·rw[eall,pairsOf_length,hL,<-taskCells_pairs]
  exact row_kept hrow kall (fun g e h=>by
   have h1:=(hro g e).2
   have h2:=(hrow.lt g e).2
   omega) (Nat.le_refl _)
 ·have h1:=hro g e
  have h2:¬wc.heap.size<=g:=by have:=(hrow.lt g e).2;omega
  rw[hown]
  simp[h1.1,h1.2,h2,e]
 ·simp[Value.ownBlock]at e
set_option maxHeartbeats 8000000 in
set_option maxRecDepth 100000 in
theorem begun_calls(H:RunCalls)(wk rm md kind arg:Int)(a:Option Addr)(len cap:Nat)(w:World)(f1: -9223372036854775808<=wk/\wk<=9223372036854775807)(f2: -9223372036854775808<=rm/\rm<=9223372036854775807)(f3: -9223372036854775808<=md/\md<=9223372036854775807)(f4: -9223372036854775808<=kind/\kind<=9223372036854775807)(f5: -9223372036854775808<=arg/\arg<=9223372036854775807)(hl:len<=9223372036854775806)(hraw:RawAt w a len) :
  Calls Tryz.prog 13 #[.agg (caseV wk rm md a len cap kind arg)] w (BegunGives w):=by
 obtain⟨V,hV⟩:∃V,w.alloc (Obj.cells (caseV wk rm md a len cap kind arg) 27)=V:=⟨_,rfl⟩
 have hbV:Below w.heap.size w V:=by rw[<-hV];exact(Below.refl _ _).alloc (Nat.le_refl _) _
 have bM:BoxAt V w.heap.size 27 (caseV wk rm md a len cap kind arg):=by rw[<-hV];exact BoxAt.new w _ _
 have sV:V.heap.size=w.heap.size+1:=by rw[<-hV];simp
 have HP:=hid_of (program_calls a len cap kind arg V hl f4 f5 (fun j hj=>by
  obtain⟨b,o,z,h1,h2,h3,h4⟩:=hraw j hj
  exact⟨b,o,z,h1,Nat.lt_of_lt_of_le h2 hbV.size,(hbV.cell (p:=⟨b,_,none⟩) h2).trans h3,h4⟩))
 have c3:V.cell? ⟨w.heap.size,3,none⟩=some (.slice a len cap):=bM.cell (o:=3) rfl
 have c4:V.cell? ⟨w.heap.size,4,none⟩=some (.int .i64 kind):=bM.cell (o:=4) rfl
 have c5:V.cell? ⟨w.heap.size,5,none⟩=some (.int .i64 arg):=bM.cell (o:=5) rfl
 have HBM:=hid_of bM
 have HBV:=hid_of hbV
 have r1:=pickS_range wk 4 (by omega)
 have r2:=pickS_range rm 20 (by omega)
 have r3:=pickS_range md 2 (by omega)
 clear bM hbV hraw
 go_enter Tryz.func13,Tryz.ntmps13
 go_upto_region 2 with(go_at_call 33;refine HP.out.mono ?_;rintro e w1 ⟨va,vcap,ks,k,x,rfl,hks,hprog,hb1⟩)
 have s1:=hb1.size
 have bM1:=HBM.out.below hb1 (by omega)
 obtain⟨w2,hw2⟩:∃w2,w1.alloc (Obj.cells #[.pointer none,.int .i64 0,.int .i64 0,.int .i64 0,.slice va ks.length vcap,.int .i64 k,.int .i64 x,.slice none 0 0,.slice none 0 0,.bool false,.bool false] 45)=w2:=⟨_,rfl⟩
 try rw[hw2]
 have hb2:Below w1.heap.size w1 w2:=by rw[<-hw2];exact(Below.refl _ _).alloc (Nat.le_refl _) _
 have bG:BoxAt w2 w1.heap.size 45 #[.pointer none,.int .i64 0,.int .i64 0,.int .i64 0,.slice va ks.length vcap,.int .i64 k,.int .i64 x,.slice none 0 0,.slice none 0 0,.bool false,.bool false]:=by rw[<-hw2];exact BoxAt.new w1 _ _
 have s2:w2.heap.size=w1.heap.size+1:=by rw[<-hw2];simp
 have bM2:=bM1.below hb2 bM1.lt
 have d0:w2.cell? ⟨w.heap.size,0,none⟩=some (.int .i64 wk):=bM2.cell (o:=0) rfl
 have d1:w2.cell? ⟨w.heap.size,1,none⟩=some (.int .i64 rm):=bM2.cell (o:=1) rfl
 have d2:w2.cell? ⟨w.heap.size,2,none⟩=some (.int .i64 md):=bM2.cell (o:=2) rfl
 obtain⟨n1,hn1⟩:∃n1,2+pickS wk 4=n1:=⟨_,rfl⟩
 obtain⟨n2,hn2⟩:∃n2,1+pickS rm 20=n2:=⟨_,rfl⟩
 obtain⟨n3,hn3⟩:∃n3,1+pickS md 2=n3:=⟨_,rfl⟩
 have HPA:Hid (∀(c n:Int) (U:World),((c=wk/\n=4)\/(c=rm/\n=20)\/(c=md/\n=2))->Calls Tryz.prog 34 #[.int .i64 c,.int .i64 n] U fun e w'=>∃v,e= .returned v/\(v= .int .i64 (pickS c n)/\U=w')):=fun c n U hc=>by
  rcases hc with⟨rfl,rfl⟩|⟨rfl,rfl⟩|⟨rfl,rfl⟩
  ·exact(pick_calls _ _ f1 (by omega) (by omega) U).mono fun e w' q=>⟨_,q.1,rfl,q.2.symm⟩
  ·exact(pick_calls _ _ f2 (by omega) (by omega) U).mono fun e w' q=>⟨_,q.1,rfl,q.2.symm⟩
  ·exact(pick_calls _ _ f3 (by omega) (by omega) U).mono fun e w' q=>⟨_,q.1,rfl,q.2.symm⟩
 have u1:IntKind.i64.wrap n1=n1:=IntWalk.i64_in _ (by omega)
 have u2:IntKind.i64.wrap n2=n2:=IntWalk.i64_in _ (by omega)
 have u3:IntKind.i64.wrap n3=n3:=IntWalk.i64_in _ (by omega)
 have z1:=bG.frozen 1
 have z2:=bG.frozen 2
 have z3:=bG.frozen 3
 have g1:=bG.cell (o:=1) rfl
 have g2:=bG.cell (o:=2) rfl
 have g3:=bG.cell (o:=3) rfl
 have HKS:=hid_of hks
 have HPR:=hid_of hprog
 have HB1:=hid_of hb1
 have HB2:=hid_of hb2
 have HBG:=hid_of bG
 have HBM2:=hid_of bM2
 clear hks hprog hb1 hb2 bG bM1 bM2 c3 c4 c5 HP
 go_cut [3] (fun g wx=>g= .pointer (some ⟨w1.heap.size,0,none⟩)/\∃W3,wx=W3/\BoxAt W3 w1.heap.size 45 #[.pointer none,.int .i64 n1,.int .i64 n2,.int .i64 n3,.slice va ks.length vcap,.int .i64 k,.int .i64 x,.slice none 0 0,.slice none 0 0,.bool false,.bool false]/\Below w1.heap.size w2 W3)
 case first=>
  go_region_law (first
   |(refine step_call2 (by rfl) 34 _ _ _ (by rfl) (.int .i64 wk) (.int .i64 4) (by rfl) (by rfl) (enters_of Tryz.func34 (by kernel_rfl) rfl) (HPA.out _ _ _ (.inl ⟨rfl,rfl⟩)) ?_;rintro v8 w8 ⟨rfl,rfl⟩)
   |(refine step_call2 (by rfl) 34 _ _ _ (by rfl) (.int .i64 rm) (.int .i64 20) (by rfl) (by rfl) (enters_of Tryz.func34 (by kernel_rfl) rfl) (HPA.out _ _ _ (.inr (.inl ⟨rfl,rfl⟩))) ?_;rintro v8 w8 ⟨rfl,rfl⟩)
   |(refine step_call2 (by rfl) 34 _ _ _ (by rfl) (.int .i64 md) (.int .i64 2) (by rfl) (by rfl) (enters_of Tryz.func34 (by kernel_rfl) rfl) (HPA.out _ _ _ (.inr (.inr ⟨rfl,rfl⟩))) ?_;rintro v8 w8 ⟨rfl,rfl⟩))
  all_goals
   go_wp2_with fail
   go_meet
   case rel=>
    refine⟨rfl,_,rfl,((((HBG.out.setAt 1 (.int .i64 n1)).setAt 2 (.int .i64 n2)).setAt 3 (.int .i64 n3)).kept ((Kept.refl (fun _=>False) _).drew) (fun h=>h)),?_⟩
    exact((((Below.refl _ _).setCell (p:=⟨w1.heap.size,1,none⟩) (Nat.le_refl _) _).setCell (p:=⟨w1.heap.size,2,none⟩) (Nat.le_refl _) _).setCell (p:=⟨w1.heap.size,3,none⟩) (Nat.le_refl _) _).drew
 case rest=>
  obtain⟨rfl,W3,rfl,b3,hb3⟩:=hcut
  have s3:=hb3.size
  have hB13:Below w1.heap.size w1 wc:=HB2.out.trans hb3
  have hK3:KindsAt (fun b=>V.heap.size<=b/\b < w1.heap.size) wc (.slice va ks.length vcap) ks:=HKS.out.below.kept (Kept.of_below (X:=fun b=>w1.heap.size<=b) hB13 (fun _ _ h=>h)) (fun b h=>by omega)
  have hlen5:ks.length<=5:=by have hprog:=HPR.out;simp[progB,rangeB]at hprog;omega
  have hkl:∀c∈ks,c.kids.length<=9223372036854775806:=fun c hc=>by
   have hprog:=HPR.out
   simp[progB]at hprog
   have:=hprog.1.1.2 c hc
   simp[kindB]at this
   omega
  have HU:=hid_of (unfold_calls va vcap k x ks wc (hK3.mono (fun _ _=>trivial)) (by omega) hkl)
  have q4:=b3.cell (o:=4) rfl
  have q5:=b3.cell (o:=5) rfl
  have q6:=b3.cell (o:=6) rfl
  have bM3:=HBM2.out.below hb3 (by omega)
  have HK3:=hid_of hK3
  have HB3:=hid_of b3
  have HB13:=hid_of hB13
  have HBM3:=hid_of bM3
  clear b3 hb3 hB13 hK3 bM3 hkl d0 d1 d2 g1 g2 g3 z1 z2 z3 HKS HBG HBM HBM2 HB2
  go_upto_if 46 with(go_at_call 35;refine HU.out.mono ?_;rintro e w4 ⟨v4,rfl,hv4,hb4⟩)
  have s4:=hb4.size
  have HV4:=hid_of hv4
  have HB4:=hid_of hb4
  have HKL:=hid_of hlen5
  clear hv4 hb4 q4 q5 q6 HU
  go_cut [3,4,5] (fun g l e wx=>e= .int .i64 0/\g= .pointer (some ⟨w1.heap.size,0,none⟩)/\ReadyAt w V w1.heap.size n1 n2 n3 l wx)
  case first=>
   by_cases hsm:(allTasks ks k x).length<=200
   ·have hu:unfoldS ks k x=(0,allTasks ks k x):=by simp[unfoldS,HPR.out,hsm]
    have hu1:(unfoldS ks k x).1=0:=by rw[hu]
    go_wp2_with fail
    go_meet
    case rel=>
     have hv:=HV4.out
     rw[hu]at hv
     refine⟨by rw[hu1],rfl,ks,k,x,va,vcap,fun b=>V.heap.size<=b/\b < w1.heap.size,hu1,HB3.out.below HB4.out HB3.out.lt,HK3.out.kept (Kept.of_below (X:=fun b=>wc.heap.size<=b) HB4.out (fun _ _ h=>h)) (fun b h=>by omega),fun h=>by omega,fun b hb=>by omega,row_kept hv (Kept.refl (fun _=>False) w4) (fun _ _ h=>h) (by omega),fun g e=> ?_,(HB1.out.trans (HB13.out.mono s1)).trans (HB4.out.mono (by omega))⟩
     have:=(hv.lt g e).1
     exact⟨by omega,by omega⟩
   ·have hu1:(unfoldS ks k x).1=4:=by simp[unfoldS,HPR.out,hsm]
    obtain⟨y0,y1⟩:=pickS_range arg 6 (by omega)
    have HPN:=hid_of (program_nil arg w4 f5)
    have bM4:=HBM3.out.below HB4.out (by omega)
    have b4:=HB3.out.below HB4.out HB3.out.lt
    have m5:w4.cell? ⟨w.heap.size,5,none⟩=some (.int .i64 arg):=bM4.cell (o:=5) rfl
    have HB4':=hid_of b4
    clear bM4 b4
    go_upto_region 6 with(go_at_call 33;refine HPN.out.mono ?_;rintro e w5 ⟨vb,rfl,hk5,hb5⟩;have b5:=HB4'.out.below hb5 HB4'.out.lt;have y4:=b5.cell (o:=4) rfl;have y5:=b5.cell (o:=5) rfl;have y6:=b5.cell (o:=6) rfl;have z4:=b5.frozen 4;have z5:=b5.frozen 5;have z6:=b5.frozen 6)
    obtain⟨w6,hw6⟩:∃w6,((w5.setCell ⟨w1.heap.size,4,none⟩ (.slice vb 1 1)).setCell ⟨w1.heap.size,5,none⟩ (.int .i64 0)).setCell ⟨w1.heap.size,6,none⟩ (.int .i64 (pickS arg 6))=w6:=⟨_,rfl⟩
    have b6:BoxAt w6 w1.heap.size 45 #[.pointer none,.int .i64 n1,.int .i64 n2,.int .i64 n3,.slice vb 1 1,.int .i64 0,.int .i64 (pickS arg 6),.slice none 0 0,.slice none 0 0,.bool false,.bool false]:=by rw[<-hw6];exact((b5.setAt 4 _).setAt 5 _).setAt 6 _
    have hk6:Kept (·= w1.heap.size) w5 w6:=by rw[<-hw6];exact(((Kept.refl (·= w1.heap.size) w5).setCell (.inl (by rfl)) _).setCell (.inl (by rfl)) _).setCell (.inl (by rfl)) _
    have s5:=hb5.size
    have s6:=hk6.size
    have hb6:Below w1.heap.size w5 w6:=hk6.below (by omega) (fun g e=>by omega)
    have hK6:KindsAt (fun b=>w4.heap.size<=b/\b < w5.heap.size) w6 (.slice vb 1 1) smallKs:=hk5.below.kept hk6 (fun b h1 h2=>by omega)
    have HU2:Hid (Calls Tryz.prog 35 #[.agg #[.slice vb 1 1,.int .i64 0,.int .i64 (pickS arg 6)]] w6 fun e w'=>∃v,e= .returned (.tuple #[v,.int .i64 0])/\w'.ownsRow w6.heap.size 92 2 v (allTasks smallKs 0 (pickS arg 6)).length (taskCells smallKs (allTasks smallKs 0 (pickS arg 6)))/\Below w6.heap.size w6 w'):=by
     have q:=unfold_calls vb 1 0 (pickS arg 6) smallKs w6 (hK6.mono (fun _ _=>trivial)) (by decide) (by decide)
     have e:=small_unfold2 y0 (show pickS arg 6<=5 by omega)
     rw[e]at q
     exact q
    have q4:=b6.cell (o:=4) rfl
    have q5:=b6.cell (o:=5) rfl
    have q6:=b6.cell (o:=6) rfl
    have HB5:=hid_of hb5
    have HB6:=hid_of hb6
    have HK6:=hid_of hK6
    have HX6:=hid_of b6
    try rw[hw6]
    clear hw6 b5 b6 hk5 hk6 hb5 hb6 hK6 y4 y5 y6 z4 z5 z6 m5
    go_wp2_with (go_at_call 35;refine HU2.out.mono ?_;rintro e w7 ⟨v7,rfl,hv7,hb7⟩)
    go_meet
    case rel=>
     refine⟨rfl,rfl,smallKs,0,pickS arg 6,vb,1,fun b=>w4.heap.size<=b/\b < w5.heap.size,small_unfold y0 (by omega),HX6.out.below hb7 HX6.out.lt,HK6.out.kept (Kept.of_below (X:=fun b=>w6.heap.size<=b) hb7 (fun _ _ h=>h)) (fun b h=>by omega),fun h=>by omega,fun b hb=>by omega,row_kept hv7 (Kept.refl (fun _=>False) w7) (fun _ _ h=>h) (by omega),fun g e=> ?_,(((HB1.out.trans (HB13.out.mono s1)).trans (HB4.out.mono (by omega))).trans (HB5.out.mono (by omega))).trans ((HB6.out.mono (by omega)).trans (hb7.mono (by omega)))⟩
     have:=(hv7.lt g e).1
     exact⟨by omega,by omega⟩
  case rest=>
   obtain⟨rfl,rfl,ks',k',x',va',vcap',K,hu,bR,hkR,hKG,hKb,hrow,hro,hbR⟩:=hcut
   have hcfg:cfgB n1 n2 n3=true:=by
    have:n3=1\/n3=2:=by omega
    simp[cfgB]
    omega
   have hprog':progB ks' k' x'=true:=by
    by_cases hp:progB ks' k' x'=true
    ·exact hp
    ·simp[unfoldS,hp]at hu
   have hfew':(allTasks ks' k' x').length<=200:=by
    by_cases hp:(allTasks ks' k' x').length<=200
    ·exact hp
    ·simp[unfoldS,hprog',hp]at hu
   have hpos:0 < (allTasks ks' k' x').length:=by show 0 < (_ :: _:List TaskS).length;simp
   have hWn:=Whole.new (ks:=ks') hcfg hprog'
   have hPn:=Play.new (ks:=ks') hcfg hprog'
   obtain⟨S,hS⟩:∃S,newS n1 n2 n3 ks' k' x'=S:=⟨_,rfl⟩
   have HNW:Hid (∀U,(U=wc\/U=wc.drew)->Calls Tryz.prog 21 #[.agg #[.int .i64 n1,.int .i64 n2,.int .i64 n3],.agg #[.slice va' ks'.length vcap',.int .i64 k',.int .i64 x']] U fun e w'=>∃v,e= .returned v/\∃B,v= .tuple #[.pointer (some ⟨B,0,none⟩),.int .i64 0]/\XOK (fun b=>wc.heap.size<=b) w' B S/\Below wc.heap.size wc w'):=fun U hU=>by
    have gU:Below wc.heap.size wc U:=by
     rcases hU with rfl|rfl
     ·exact Below.refl _ _
     ·exact(Below.refl _ _).drew
    have eU:U.heap.size=wc.heap.size:=by rcases hU with rfl|rfl<;>rfl
    refine(x_new_good va' vcap' n1 n2 n3 k' x' ks' U ((hkR.below.kept (Kept.of_below (X:=fun b=>wc.heap.size<=b) gU (fun _ _ h=>h)) (fun b h=>by omega)).mono (fun _ _=>trivial)) hcfg hu).mono ?_
    rintro e w' ⟨B,rfl,hx,hb⟩
    rw[eU,hS]at hx
    exact⟨_,rfl,B,rfl,hx,gU.trans (hb.mono (by omega))⟩
   obtain⟨la,lc,rfl⟩:=row_form hrow
   obtain⟨L,hL⟩:∃L,(allTasks ks' k' x').length=L:=⟨_,rfl⟩
   rw[hL]at hrow hpos hro ⊢
   have hL0:((L:Int)==0)=false:=by rw[beq_eq_false_iff_ne];omega
   have q1:=bR.cell (o:=1) rfl
   have q2:=bR.cell (o:=2) rfl
   have q3:=bR.cell (o:=3) rfl
   have q4:=bR.cell (o:=4) rfl
   have q5:=bR.cell (o:=5) rfl
   have q6:=bR.cell (o:=6) rfl
   have HBR:=hid_of bR
   have HKR:=hid_of hkR
   have HRW:=hid_of hrow
   have HRO:=hid_of hro
   have HBR2:=hid_of hbR
   have HWN:=hid_of hWn
   have HPN:=hid_of hPn
   have HS:=hid_of hS
   clear bR hkR hrow hro hbR hWn hPn hS
   go_upto_region 7 with fail
   go_region_law (refine step_call2 (by rfl) 21 _ _ _ (by rfl) (.agg #[.int .i64 n1,.int .i64 n2,.int .i64 n3]) (.agg #[.slice va' ks'.length vcap',.int .i64 k',.int .i64 x']) (by rfl) (by rfl) (enters_of Tryz.func21 (by kernel_rfl) rfl) (HNW.out _ (by first|exact .inl rfl|exact .inr rfl)) ?_;rintro v8 w8 ⟨B,rfl,hx8,hb8⟩)
   all_goals
    have s8:=hb8.size
    have bR8:=HBR.out.below hb8 HBR.out.lt
    have y7:=bR8.cell (o:=7) rfl
    have y0':=bR8.cell (o:=0) rfl
    have z7:=bR8.frozen 7
    have z0:=bR8.frozen 0
    have hx8':=hx8
    rw[<-HS.out]at hx8'
    obtain⟨own9,hG9⟩:=game_new (w:=w) HBR.out HKR.out hKG hKb (by omega) HRW.out hL HRO.out hx8' hb8
    have hb9:Below wc.heap.size wc w8:=hb8
    obtain⟨w9,hw9⟩:∃w9,(w8.setCell ⟨w1.heap.size,7,none⟩ (.slice la L lc)).setCell ⟨w1.heap.size,0,none⟩ (.pointer (some ⟨B,0,none⟩))=w9:=⟨_,rfl⟩
    rw[hw9]at hG9
    have hb89:Below w1.heap.size w8 w9:=by rw[<-hw9];exact((Below.refl _ _).setCell (p:=⟨w1.heap.size,7,none⟩) (Nat.le_refl _) _).setCell (p:=⟨w1.heap.size,0,none⟩) (Nat.le_refl _) _
    have HBW9:Hid (Below w.heap.size w w9):=((HBV.out.trans (HBR2.out.mono HBV.out.size)).trans (hb8.mono (by have:=HBR2.out.size;omega))).trans (hb89.mono (by omega))
    have hT0:=H.tasks _ B 0 S 0 w9 (by rw[HS.out]at hG9;exact hG9.run) (by rw[HS.out]at HWN;exact HWN.out)
    rw[<-HS.out,tasks_new0 ks' (by omega)]at hT0
    have HT0:=hid_of hT0
    have HG9:=hid_of hG9
    have s89:=hb89.size
    clear hx8 hx8' hb8 bR8 hG9 hb89 hT0 hb9
    go_upto_region 12 with fail
    try rw[hw9]
    clear hw9 y7 y0' z7 z0
    go_upto_region 13 with(go_at_call 23;refine HT0.out.mono ?_;rintro e w10 ⟨v10,rfl,hv10,hb10⟩)
    have s10:=hb10.size
    have hG10:=HG9.out.later hb10
    have hT1:=H.tasks _ B 0 _ 1 w10 hG10.run HWN.out
    rw[tasks_new1 ks' (by omega)]at hT1
    have HT1:=hid_of hT1
    obtain⟨g10,c10,hf10,hg10,hl10⟩:=World.ownsRow.form hv10 (by simp)
    cases hf10
    have t0:w10.cell? ⟨g10,0,none⟩=some (.string ⟨#[]⟩):=by
     have h1:=hv10.cells (g:=g10) rfl 0 (.string ⟨#[]⟩) rfl
     rw[Addr.add_lit,Nat.zero_add]at h1
     exact h1
    have t2:w10.cell? ⟨g10,2,none⟩=some (.int .i64 x'):=by
     have h1:=hv10.cells (g:=g10) rfl 2 (.int .i64 x') rfl
     rw[Addr.add_lit,Nat.zero_add]at h1
     exact h1
    have HG10:=hid_of hG10
    have HB10:=hid_of hb10
    clear hG10 hT1 hv10 hb10
    go_upto_region 14 with(go_at_call 23;refine HT1.out.mono ?_;rintro e w11 ⟨v11,rfl,hv11,hb11⟩)
    obtain⟨a11,c11,rfl⟩:=row_form hv11
    have s11:=hb11.size
    have hG11:=HG10.out.later hb11
    have u0:=(hb11.cell (p:=⟨g10,0,none⟩) hl10).trans t0
    have u2:=(hb11.cell (p:=⟨g10,2,none⟩) hl10).trans t2
    have p6:w11.cell? ⟨w1.heap.size,6,none⟩=some (.int .i64 x'):=hG11.box.cell (o:=6) rfl
    have HG11:=hid_of hG11
    have HB11:=hid_of ((HBW9.out.trans (HB10.out.mono HBW9.out.size)).trans (hb11.mono (Nat.le_trans HBW9.out.size s10)))
    clear hG11 hb11 hv11 t0 t2
    go_quiet (fail)
    go_wp2_with fail
    go_ret
    refine⟨_,_,B,newS n1 n2 n3 ks' k' x',va',vcap',_,rfl,(HG11.out.later (below_drewN (Below.refl _ _) _)),HWN.out,HPN.out,hfew',?_⟩
    exact below_drewN HB11.out _
end Go.Proofs.YtfanaanofjhlkaaGreatDoor
