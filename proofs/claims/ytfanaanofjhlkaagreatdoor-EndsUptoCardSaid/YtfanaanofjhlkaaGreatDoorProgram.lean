import Derived.Test.YtfanaanofjhlkaaGreatDoorPickN
import Derived.Test.YtfanaanofjhlkaaGreatDoorAt
import Derived.Deep.DeepCutAuto
import Derived.Deep.RegionLaw
import Derived.Deep.AppendLies
namespace Go.Proofs.YtfanaanofjhlkaaGreatDoor
open Go Go.RowKit
def MadeProg(w w':World)(v:Value)(kind arg:Int):Prop:=∃l,KindsRow w' w.heap.size v l/\progB (l.map Prod.fst) kind arg=true
theorem tdiv_range(z d:Int)(hd:1<=d)(hz: -9223372036854775808<=z/\z<=9223372036854775807): -9223372036854775808<=z.tdiv d/\z.tdiv d<=9223372036854775807:=by
 have h:=Int.natAbs_tdiv z d
 have h2:z.natAbs / d.natAbs<=z.natAbs:=Nat.div_le_self _ _
 have h3:(z.tdiv d).natAbs<=z.natAbs:=by rw[h];exact h2
 by_cases hs:0<=z
 ·have:=Int.tdiv_nonneg hs (by omega:0<=d)
  omega
 ·have:=Int.tdiv_nonneg (a:=-z) (b:=d) (by omega) (by omega)
  rw[Int.neg_tdiv]at this
  omega
set_option maxHeartbeats 1000000 in
theorem program_small(a:Option Addr)(len cap:Nat)(kind arg:Int)(w:World)(hlen:len < 2)(harg: -9223372036854775808<=arg/\arg<=9223372036854775807) :
  Calls Tryz.prog 33 #[.slice a len cap,.int .i64 kind,.int .i64 arg] w fun e w'=>∃v k x,e= .returned (.agg #[v,.int .i64 k,.int .i64 x])/\MadeProg w w' v k x/\Below w.heap.size w w':=by
 have h0:(len:Int) / 2=0:=by omega
 obtain⟨r0,r1⟩:=pickS_range arg 6 (by omega)
 go_enter Tryz.func33,Tryz.ntmps33
 go_wp2_with (go_at_call 34;refine(pick_calls _ _ harg (by omega) (by omega) _).mono ?_;rintro e w' ⟨rfl,rfl⟩)
 refine bodyPost_ret (v:= .agg #[.slice (some ⟨w.heap.size+1+1,0,none⟩) 1 1,.int .i64 0,.int .i64 (pickS arg 6)]) (by simp[results,Tryz.results33,go_sem]) rfl ⟨_,0,pickS arg 6,rfl,?_,?_⟩
 ·refine⟨[(⟨1,2,[⟨0,1⟩,⟨0,2⟩]⟩,.slice (some ⟨w.heap.size+1,0,none⟩) 2 2)],⟨?_,?_⟩,?_⟩
  ·exact row_new _ (w.heap.size+1+1) w.heap.size 56 3 1 _ _ (by simp) (by omega) rfl rfl (by unfold maxLen;omega)
  ·intro p hp
   simp only[List.mem_singleton]at hp
   subst hp
   exact(row_new _ (w.heap.size+1) w.heap.size 53 2 2 _ _ (by simp) (by omega) rfl rfl (by unfold maxLen;omega)).alloc _
  ·have e:rangeB (pickS arg 6) 0 12=true:=by simp[rangeB];omega
   simp[progB,kindB,kidB,numB,e]
   decide
 ·exact(((Below.refl _ _).alloc (Nat.le_refl _) _).alloc (by simp) _).alloc (by simp;omega) _
set_option maxHeartbeats 2000000 in
set_option maxRecDepth 100000 in
theorem program_big(b o len cap:Nat)(kind arg:Int)(w:World)(hlen:2<=len)(hl2:len<=9223372036854775806)(hkind: -9223372036854775808<=kind/\kind<=9223372036854775807)(harg: -9223372036854775808<=arg/\arg<=9223372036854775807)
  (hb:b < w.heap.size) (hraw:∀j,j < len->∃z,w.cell? ⟨b,o+j,none⟩=some (.int .i64 z)/\ -9223372036854775808<=z/\z<=9223372036854775807) :
  Calls Tryz.prog 33 #[.slice (some ⟨b,o,none⟩) len cap,.int .i64 kind,.int .i64 arg] w fun e w'=>∃v k x,e= .returned (.agg #[v,.int .i64 k,.int .i64 x])/\MadeProg w w' v k x/\Below w.heap.size w w':=by
 obtain⟨N,hN⟩:∃N,min (len / 2) 5=N:=⟨_,rfl⟩
 have hN1:1<=N:=by omega
 have hN5:N<=5:=by omega
 have hNl:2*N<=len:=by omega
 have HN:Hid (min (len / 2) 5=N):=hN
 clear hN
 obtain⟨r0,r1⟩:=pickS_range kind N (by omega)
 obtain⟨s0,s1⟩:=pickS_range arg 13 (by omega)
 have hN0:((N:Int)==0)=false:=by rw[beq_eq_false_iff_ne];omega
 go_enter Tryz.func33,Tryz.ntmps33
 go_upto_if 17 with fail
 go_cut [7] (fun n wx=>n= .int .i64 (N:Int)/\wx=w.alloc (.cells #[.slice none 0 0,.int .i64 0,.int .i64 0] 41))
 case first=>
  go_wp2_with fail
  ·go_meet
   case rel=>exact⟨by have:=HN.out;congr 1;omega,rfl⟩
  ·go_meet
   case rel=>exact⟨by have:=HN.out;congr 1;omega,rfl⟩
 case rest=>
  obtain⟨rfl,rfl⟩:=hcut
  go_wp2_with (go_at_call 34;refine(pick_calls _ _ (by assumption) (by omega) (by omega) _).mono ?_;rintro e w' ⟨rfl,rfl⟩)
  go_loopw [9] (fun i wr=>∃(m:Nat) (l:List (KindS×Value)) (v:Value),m<=N/\i= .int .i64 m/\l.length=m/\(∀p∈l,kindB N p.1=true)/\Below w.heap.size w wr/\BoxAt wr w.heap.size 41 #[.slice none 0 0,.int .i64 0,.int .i64 0]/\BoxAt wr (w.heap.size+1) 41 #[v,.int .i64 (pickS kind N),.int .i64 (pickS arg 13)]/\KindsRow wr w.heap.size v l) (fun i _=>N - (intOf i).toNat)
  case atStart=>
   refine⟨0,[],.slice none 0 0,Nat.zero_le _,rfl,rfl,by simp,((Below.refl _ _).alloc (Nat.le_refl _) _).alloc (by simp) _,(BoxAt.new w _ _).alloc _,?_,World.ownsRow_nil _ _ _ _,by simp⟩
   have:=BoxAt.new (w.alloc (Obj.cells #[Value.slice none 0 0,Value.int IntKind.i64 0,Value.int IntKind.i64 0] 41)) 41 #[.slice none 0 0,.int .i64 (pickS kind N),.int .i64 (pickS arg 13)]
   simpa only[World.size_alloc]using this
  case round=>
   obtain⟨m,l,v,hm,rfl,hlm,hkinds,hbw,hb6,hb8,hrows⟩:=hrel
   rename World=>Wo
   have hsz:=hbw.size
   by_cases hlt:m < N
   ·obtain⟨z,cz,hz1,hz2⟩:=hraw (2*m) (by omega)
    obtain⟨y,cy,hy1,hy2⟩:=hraw (2*m+1) (by omega)
    have fz:=(hbw.cell (p:=⟨b,o+2*m,none⟩) hb).trans cz
    have fy:=(hbw.cell (p:=⟨b,o+(2*m+1),none⟩) hb).trans cy
    have fz':Wo.cell? ⟨b,o+(2*(m:Int)).toNat,none⟩=some (.int .i64 z):=by rw[show(2*(m:Int)).toNat=2*m from by omega];exact fz
    have fy':∀obj,(Wo.alloc obj).cell? ⟨b,o+(2*m+1),none⟩=some (.int .i64 y):=fun obj=>cell_alloc obj fy
    have fy'':∀obj,(Wo.alloc obj).cell? ⟨b,o+(2*(m:Int)+1).toNat,none⟩=some (.int .i64 y):=fun obj=>by rw[show(2*(m:Int)+1).toNat=2*m+1 from by omega];exact cell_alloc obj fy
    go_upto_region 10 with fail
    obtain⟨a0,a1⟩:=pickS_range z 2001 (by omega)
    obtain⟨e0,e1⟩:=pickS_range (z.tdiv 2001) 2001 (by omega)
    obtain⟨t0,t1⟩:=tdiv_range z 2001 (by omega) ⟨hz1,hz2⟩
    have w1:IntKind.i64.wrap (pickS z 2001 - 1000)=pickS z 2001 - 1000:=IntWalk.i64_in _ (by omega)
    have w2:IntKind.i64.wrap (pickS (z.tdiv 2001) 2001 - 1000)=pickS (z.tdiv 2001) 2001 - 1000:=IntWalk.i64_in _ (by omega)
    have w4:IntKind.i64.wrap (z.tdiv 2001)=z.tdiv 2001:=IntWalk.i64_in _ ⟨t0,t1⟩
    have w3:IntKind.i64.wrap (2*(m:Int))=2*(m:Int):=IntWalk.i64_in _ (by omega)
    have i1:(0:Int)<=2*(m:Int):=by omega
    have i2:2*(m:Int) < (len:Int):=by omega
    go_cut [10] (fun k wx=>k= .pointer (some ⟨Wo.heap.size,0,none⟩)/\wx=(Wo.alloc (.cells #[.int .i64 (pickS z 2001 - 1000),.int .i64 (pickS (z.tdiv 2001) 2001 - 1000),.slice none 0 0] 56)).drew)
    case first=>
     go_region_held3 (fun w'=>w'.cell? ⟨b,o+(2*(m:Int)).toNat,none⟩=some (.int .i64 z)) (go_keep)
      (first|(go_at_call 34;refine(pick_calls _ _ (by constructor<;>assumption) (by omega) (by omega) _).mono ?_;rintro e w' ⟨rfl,rfl⟩))
     all_goals
      go_wp2_with fail
      go_meet
      case rel=>exact⟨rfl,rfl⟩
    case rest=>
     obtain⟨rfl,rfl⟩:=hcut
     go_wp2_with fail
     obtain⟨A,hA⟩:∃A,pickS z 2001 - 1000=A:=⟨_,rfl⟩
     obtain⟨B,hB⟩:∃B,pickS (z.tdiv 2001) 2001 - 1000=B:=⟨_,rfl⟩
     rw[hA,hB]
     have hA1: -1000<=A/\A<=1000:=by omega
     have hB1: -1000<=B/\B<=1000:=by omega
     clear hA hB w1 w2 w3 w4 fz fz' fy' fy'' fy cz cy a0 a1 e0 e1 t0 t1 i1 i2
     obtain⟨i0,hi,hzz0,hzz1,hzz2⟩:=info_parts infoKid
     go_loopw [11,12] (fun vv j wy=>∃(q:Nat) (y':Int) (kids:List KidS) (kv:Value),q<=3/\j= .int .i64 q/\vv= .int .i64 y'/\ -9223372036854775808<=y'/\y'<=9223372036854775807/\kids.length=q/\(∀d∈kids,kidB N d=true)/\BoxAt wy Wo.heap.size 56 #[.int .i64 A,.int .i64 B,kv]/\wy.ownsRow Wo.heap.size 53 2 kv q (kidCells kids)/\Below Wo.heap.size Wo wy) (fun _ j _=>3 - (intOf j).toNat)
     case atStart=>
      exact⟨0,y,[],.slice none 0 0,by omega,rfl,rfl,hy1,hy2,rfl,by simp,BoxAt.new Wo _ _,World.ownsRow_nil _ _ _ _,((Below.refl _ Wo).alloc (Nat.le_refl _) _).drew⟩
     case round=>
      obtain⟨q,y',kids,kv,hq3,rfl,rfl,hy1',hy2',hkl,hkids,hbk,hrow,hbelow⟩:=hrel
      obtain⟨r,hr⟩:∃r,pickS y' 4=r:=⟨_,rfl⟩
      have hr4:0<=r/\r < 4:=by have:=pickS_range y' 4 (by omega);omega
      have HP:Hid (∀W:World,Calls Tryz.prog 34 #[.int .i64 y',.int .i64 4] W fun e w'=>e= .returned (.int .i64 r)/\W=w'):=fun W=>by rw[<-hr];exact(pick_calls _ _ ⟨hy1',hy2'⟩ (by omega) (by omega) W).mono fun _ _ h=>⟨h.1,h.2.symm⟩
      clear hr
      have hszo:=hbelow.size
      by_cases hqr:(q:Int) < r
      ·obtain⟨t0,t1⟩:=tdiv_range y' 4 (by omega) ⟨hy1',hy2'⟩
       have w1:IntKind.i64.wrap (y'.tdiv 4)=y'.tdiv 4:=IntWalk.i64_in _ ⟨t0,t1⟩
       go_upto_region 16 with(go_at_call 34;refine(HP.out _).mono ?_;rintro e w' ⟨rfl,rfl⟩)
       obtain⟨x',hx'⟩:∃x',y'.tdiv 4=x':=⟨_,rfl⟩
       rw[hx']at t0 t1 ⊢
       clear hx' w1
       obtain⟨u0,u1⟩:=tdiv_range x' 5 (by omega) ⟨t0,t1⟩
       obtain⟨v0,v1⟩:=tdiv_range x' 9 (by omega) ⟨t0,t1⟩
       have w1:IntKind.i64.wrap (x'.tdiv 5)=x'.tdiv 5:=IntWalk.i64_in _ ⟨u0,u1⟩
       have w9:IntKind.i64.wrap (x'.tdiv 9)=x'.tdiv 9:=IntWalk.i64_in _ ⟨v0,v1⟩
       obtain⟨kk,hkk⟩:∃kk,pickS x' N=kk:=⟨_,rfl⟩
       obtain⟨ll,hll⟩:∃ll,pickS (x'.tdiv 5) 9=ll:=⟨_,rfl⟩
       have hk1:0<=kk/\kk < N:=by have:=pickS_range x' N (by omega);omega
       have hl1:0<=ll/\ll < 9:=by have:=pickS_range (x'.tdiv 5) 9 (by omega);omega
       have HP1:Hid (∀W:World,Calls Tryz.prog 34 #[.int .i64 x',.int .i64 (N:Int)] W fun e w'=>e= .returned (.int .i64 kk)/\W=w'):=fun W=>by rw[<-hkk];exact(pick_calls _ _ ⟨t0,t1⟩ (by omega) (by omega) W).mono fun _ _ h=>⟨h.1,h.2.symm⟩
       have HP2:Hid (∀W:World,Calls Tryz.prog 34 #[.int .i64 (x'.tdiv 5),.int .i64 9] W fun e w'=>e= .returned (.int .i64 ll)/\W=w'):=fun W=>by rw[<-hll];exact(pick_calls _ _ ⟨u0,u1⟩ (by omega) (by omega) W).mono fun _ _ h=>⟨h.1,h.2.symm⟩
       clear hkk hll
       have w2:IntKind.i64.wrap (1+ll)=1+ll:=IntWalk.i64_in _ (by omega)
       have ck:=hbk.cell (o:=2) rfl
       have ck':=fun obj=>cell_alloc obj ck
       have hblt:=hbk.lt
       have HBK:Hid (BoxAt wr Wo.heap.size 56 #[.int .i64 A,.int .i64 B,kv]):=hbk
       have HROW:Hid (wr.ownsRow Wo.heap.size 53 2 kv q (kidCells kids)):=hrow
       have HNE:Hid (kv.ownBlock≠some Wo.heap.size):=row_ne hrow hbk (by decide)
       clear hbk hrow
       go_cut [11] (fun vv wx=>vv= .int .i64 x'/\∃g cp,BoxAt wx Wo.heap.size 56 #[.int .i64 A,.int .i64 B,.slice (some ⟨g,0,none⟩) (q+1) cp]/\wx.ownsRow Wo.heap.size 53 2 (.slice (some ⟨g,0,none⟩) (q+1) cp) (q+1) (kidCells (kids++ [⟨kk,1+ll⟩]))/\Below Wo.heap.size Wo wx)
       case first=>
        go_region_law (first
         |(refine step_append_lies _ (by rfl) _ _ _ (by rfl) Wo.heap.size 53 i0 _ 2 16 Tryz.underlying54 hi hzz0 hzz1 hzz2 rfl (by omega) kv q (kidCells kids) (by rfl) ((HROW.out.alloc _).drew) ⟨wr.heap.size,0,none⟩ 1 1 [.int .i64 kk,.int .i64 (1+ll)] (by rfl) (by rfl) (World.news_of_block (cs:=#[.int .i64 kk,.int .i64 (1+ll)]) (t:=53) (fr:=(0,0)) (heap_alloc_new wr _)) (by simp[Value.oneCell']) (by omega) (by unfold maxLen;omega) (by omega) (by simp;omega) (wr.heap.size+1) (by simp) ?_;intro g cp w1 hown1 hgrow hat hlt;have hbx:BoxAt w1 Wo.heap.size 56 #[.int .i64 A,.int .i64 B,kv]:=(hgrow.block Wo.heap.size (by simp;omega) (fun e=>HNE.out e.symm)).trans (HBK.out.alloc _);have c9:=hbx.cell (o:=2) rfl;have f9:=hbx.frozen 2)
         |(refine step_call_pure (by rfl) 34 _ _ _ (by rfl) (.int .i64 x') (.int .i64 (N:Int)) (.int .i64 kk) (by rfl) (by rfl) (enters_of Tryz.func34 (by kernel_rfl) rfl) (HP1.out _) ?_)
         |(refine step_call_pure (by rfl) 34 _ _ _ (by rfl) (.int .i64 (x'.tdiv 5)) (.int .i64 9) (.int .i64 ll) (by rfl) (by rfl) (enters_of Tryz.func34 (by kernel_rfl) rfl) (HP2.out _) ?_))
        all_goals
         go_wp2_with fail
         go_meet
         case rel=>
          have hne:g≠Wo.heap.size:=fun e=>row_ne hown1 hbx (by decide) (by rw[e];rfl)
          have hrw:∀k,kv.ownBlock=some k->Wo.heap.size<=k:=fun k e=>(HROW.out.lt k e).1
          refine⟨rfl,g,cp,hbx.setAt 2 _,?_,?_⟩
          ·have e:kidCells (kids++ [⟨kk,1+ll⟩])=kidCells kids++ [.int .i64 kk,.int .i64 (1+ll)]:=by simp[kidCells]
           rw[e]
           have hks:Kept (·= Wo.heap.size) w1 (w1.setCell ⟨Wo.heap.size,2,none⟩ (.slice (some ⟨g,0,none⟩) (q+1) cp)):=(Kept.refl _ _).setCell (.inl (by rfl)) _
           exact row_kept hown1 hks (fun g' hg' hx=>hne (by simp[Value.ownBlock]at hg';omega)) (Nat.le_refl _)
          ·exact(((hbelow.alloc hszo _).drew.grown hgrow (by simp;omega) hrw).setCell (p:=⟨Wo.heap.size,2,none⟩) (by simp) _)
       case rest=>
        obtain⟨rfl,g,cp,hbk,hrow,hbelow'⟩:=hcut
        go_wp2_with fail
        go_roundw
        case rel=>
         refine⟨q+1,x'.tdiv 9,kids++ [⟨kk,1+ll⟩],.slice (some ⟨g,0,none⟩) (q+1) cp,by omega,by go_num,rfl,v0,v1,by simp[hkl],?_,hbk,hrow,hbelow'⟩
         intro d hd
         rcases List.mem_append.1 hd with hd|hd
         ·exact hkids d hd
         ·simp at hd;subst hd
          simp[kidB,numB,rangeB];omega
        case measure=>simp[intOf];omega
      ·obtain⟨ka,kcap,rfl,-⟩:=row_slice hrow
       have hrowsW:=hrows.below hbelow
       have HROWS:Hid (KindsRow wr w.heap.size v l):=hrowsW
       have HROW:Hid (wr.ownsRow Wo.heap.size 53 2 (.slice ka q kcap) q (kidCells kids)):=hrow
       have p8:=hb8.below hbelow hb8.lt
       have p6:=hb6.below hbelow hb6.lt
       have l8:=hb8.lt
       have HP8:Hid (BoxAt wr (w.heap.size+1) 41 #[v,.int .i64 (pickS kind N),.int .i64 (pickS arg 13)]):=p8
       have HP6:Hid (BoxAt wr w.heap.size 41 #[.slice none 0 0,.int .i64 0,.int .i64 0]):=p6
       have HNE:Hid (v.ownBlock≠some (w.heap.size+1)):=row_ne hrowsW.1 p8 (by decide)
       have HNE6:Hid (v.ownBlock≠some w.heap.size):=row_ne hrowsW.1 p6 (by decide)
       obtain⟨va,vcap,hv,-⟩:=row_slice hrowsW.1
       have k0:=hbk.cell (o:=0) rfl
       have k1:=hbk.cell (o:=1) rfl
       have k2:=hbk.cell (o:=2) rfl
       have c8:=p8.cell (o:=0) rfl
       have hl4:l.length+1<=6:=by omega
       obtain⟨i1,hi1,hy0,hy1'',hy2''⟩:=info_parts infoKind
       clear hrow hrowsW hbk p8 p6 hv hb8 hb6
       go_wp2_with (first
        |(go_at_call 34;refine(HP.out _).mono ?_;rintro e w' ⟨rfl,rfl⟩)
        |(at_builtin;refine wpList_append_lies _ rfl _ _ _ rfl w.heap.size 56 i1 _ 3 40 Tryz.underlying39 hi1 hy0 hy1'' hy2'' rfl (by omega) v l.length (kindCells l) rfl (HROWS.out.1.alloc _) ⟨wr.heap.size,0,none⟩ 1 1 [.int .i64 A,.int .i64 B,.slice ka q kcap] rfl rfl (World.news_of_block (cs:=#[.int .i64 A,.int .i64 B,.slice ka q kcap]) (t:=56) (fr:=(0,0)) (heap_alloc_new wr _)) (by simp[Value.oneCell']) (by omega) (by unfold maxLen;omega) (by omega) (by simp;omega) (wr.heap.size+1) (by simp) ?_;intro g cp w1 hown1 hgrow hat hlt1;have hbx:BoxAt w1 (w.heap.size+1) 41 #[v,.int .i64 (pickS kind N),.int .i64 (pickS arg 13)]:=(hgrow.block (w.heap.size+1) (by simp;omega) (fun e=>HNE.out e.symm)).trans (HP8.out.alloc _);have c9:=hbx.cell (o:=0) rfl;have f9:=hbx.frozen 0))
       rw[hlm]at hown1
       have hbwr:Below w.heap.size w wr:=hbw.trans (hbelow.mono hsz)
       have kw1:Kept (fun b=>some b=v.ownBlock) wr w1:=(Kept.alloc _ wr _).trans (Kept.grown hgrow (fun r e=>e.symm))
       have k1T:Kept (·= w.heap.size+1) w1 (w1.setCell ⟨w.heap.size+1,0,none⟩ (.slice (some ⟨g,0,none⟩) (m+1) cp)):=(Kept.refl _ _).setCell (.inl (by rfl)) _
       have kwT:Kept (fun b=>some b=v.ownBlock\/b=w.heap.size+1) wr (w1.setCell ⟨w.heap.size+1,0,none⟩ (.slice (some ⟨g,0,none⟩) (m+1) cp)):=(kw1.mono (fun _ _ h=> .inl h)).trans (k1T.mono (fun _ _ h=> .inr h))
       have hng:g≠w.heap.size+1:=fun e=>row_ne hown1 hbx (by decide) (by rw[e];rfl)
       have hnk:∀{base n:Nat} {kv:Value} {xs:List Value},wr.ownsRow base 53 2 kv n xs->∀g',kv.ownBlock=some g'->¬(some g'=v.ownBlock\/g'=w.heap.size+1):=by
        rintro base n kv xs hr g' hg' (hx|hx)
        ·obtain⟨cs,hcs⟩:=row_obj hr hg'
         obtain⟨cs2,hcs2⟩:=row_obj HROWS.out.1 hx.symm
         rw[hcs]at hcs2
         simp at hcs2
        ·exact row_ne hr HP8.out (by decide) (by rw[hg',hx])
       refine⟨⟨m+1,l++ [(⟨A,B,kids⟩,.slice ka q kcap)],.slice (some ⟨g,0,none⟩) (m+1) cp,by omega,by go_num,by simp[hlm],?_,?_,?_,hbx.setAt 0 _,?_,?_⟩,by simp[intOf];omega⟩
       ·intro p hp
        rcases List.mem_append.1 hp with hp|hp
        ·exact hkinds p hp
        ·simp only[List.mem_singleton]at hp
         subst hp
         simp only[kindB,rangeB,Bool.and_eq_true,decide_eq_true_eq,List.all_eq_true]
         exact⟨⟨⟨hA1,hB1⟩,by omega⟩,hkids⟩
       ·exact((hbwr.alloc hbwr.size _).grown hgrow (by have:=hbwr.size;simp;omega) (fun k e=>(HROWS.out.1.lt k e).1)).setCell (p:=⟨w.heap.size+1,0,none⟩) (by simp) _
       ·exact(HP6.out.kept kw1 (fun e=>HNE6.out e.symm)).far _ _ (by simp)
       ·have e:kindCells (l++ [(⟨A,B,kids⟩,.slice ka q kcap)])=kindCells l++ [.int .i64 A,.int .i64 B,.slice ka q kcap]:=by simp[kindCells]
        rw[e,List.length_append,hlm]
        exact row_kept hown1 k1T (fun g' hg' hx=>hng (by simp[Value.ownBlock]at hg';omega)) (Nat.le_refl _)
       ·intro p hp
        rcases List.mem_append.1 hp with hp|hp
        ·exact row_kept (HROWS.out.2 p hp) kwT (hnk (HROWS.out.2 p hp)) (Nat.le_refl _)
        ·simp only[List.mem_singleton]at hp
         subst hp
         show World.ownsRow _ w.heap.size 53 2 (.slice ka q kcap) kids.length (kidCells kids)
         rw[hkl]
         exact row_kept HROW.out kwT (hnk HROW.out) hsz
   ·obtain⟨va,vcap,rfl,-⟩:=row_slice hrows.1
    have HROWS:Hid (KindsRow Wo w.heap.size (.slice va l.length vcap) l):=hrows
    have HB6:Hid (BoxAt Wo w.heap.size 41 #[.slice none 0 0,.int .i64 0,.int .i64 0]):=hb6
    have k0:=hb8.cell (o:=0) rfl
    have k1:=hb8.cell (o:=1) rfl
    have k2:=hb8.cell (o:=2) rfl
    have r6:=hb6.cell (o:=0) rfl
    have r7:=hb6.cell (o:=1) rfl
    have r8:=hb6.cell (o:=2) rfl
    have f6:=hb6.frozen 0
    have f7:=hb6.frozen 1
    have f8:=hb6.frozen 2
    have hmN:Hid (m=N):=by show m=N;omega
    clear hrows hb6 hb8
    go_wp2_with fail
    have hT:BoxAt (((Wo.setCell ⟨w.heap.size,0,none⟩ (.slice va m vcap)).setCell ⟨w.heap.size,1,none⟩ (.int .i64 (pickS kind N))).setCell ⟨w.heap.size,2,none⟩ (.int .i64 (pickS arg 13))) w.heap.size 41 #[.slice va m vcap,.int .i64 (pickS kind N),.int .i64 (pickS arg 13)]:=
     ((HB6.out.setAt 0 _).setAt 1 _).setAt 2 _
    have y0:=hT.cell (o:=0) rfl
    have y1:=hT.cell (o:=1) rfl
    have y2:=hT.cell (o:=2) rfl
    have kT:Kept (·= w.heap.size) Wo (((Wo.setCell ⟨w.heap.size,0,none⟩ (.slice va m vcap)).setCell ⟨w.heap.size,1,none⟩ (.int .i64 (pickS kind N))).setCell ⟨w.heap.size,2,none⟩ (.int .i64 (pickS arg 13))):=
     (((Kept.refl _ _).setCell (.inl (by rfl)) _).setCell (.inl (by rfl)) _).setCell (.inl (by rfl)) _
    refine bodyPost_ret (v:= .agg #[.slice va m vcap,.int .i64 (pickS kind N),.int .i64 (pickS arg 13)]) (by simp[results,Tryz.results33,go_sem,y0,y1,y2]) rfl ⟨_,_,_,rfl,⟨l,?_,?_⟩,?_⟩
    ·rw[<-hlm]
     rw[<-hlm]at kT
     exact HROWS.out.kept kT (fun b hb' _=>by subst hb';exact⟨_,_,_,HB6.out,by decide,by decide⟩)
    ·have hln:(l.map Prod.fst).length=N:=by rw[List.length_map,hlm];exact hmN.out
     simp only[progB,hln,rangeB,numB,Bool.and_eq_true,decide_eq_true_eq,List.all_eq_true]
     refine⟨⟨⟨by omega,?_⟩,by omega⟩,by omega⟩
     intro k hk
     obtain⟨p,hp,rfl⟩:=List.mem_map.1 hk
     exact hkinds p hp
    ·exact((hbw.setCell (p:=⟨w.heap.size,0,none⟩) (Nat.le_refl _) _).setCell (p:=⟨w.heap.size,1,none⟩) (Nat.le_refl _) _).setCell (p:=⟨w.heap.size,2,none⟩) (Nat.le_refl _) _
end Go.Proofs.YtfanaanofjhlkaaGreatDoor
