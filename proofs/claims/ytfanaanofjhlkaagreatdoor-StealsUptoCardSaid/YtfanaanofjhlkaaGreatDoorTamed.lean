import Derived.Test.YtfanaanofjhlkaaGreatDoorTwins
import Derived.Test.YtfanaanofjhlkaaGreatDoorStoreM
set_option maxHeartbeats 16000000
set_option maxRecDepth 100000
namespace Go.Proofs.YtfanaanofjhlkaaGreatDoor
open Go Go.RowKit Tryz
def jR(n:Int):Prop:=-9223372036854775808<=n/\n<=9223372036854775807
abbrev cW(k r W V i b c wk rm md:Int)(kv:Value)(pk pa:Int):Array Value:=#[.int .i64 k,.int .i64 r,.int .i64 W,.int .i64 V,.int .i64 i,.int .i64 b,.int .i64 c,.int .i64 wk,.int .i64 rm,.int .i64 md,kv,.int .i64 pk,.int .i64 pa]
def aMd(k r b c wk rm md:Int)(kv:Value)(pk pa:Int)(w:World)(e:Ending)(w':World):Prop:=∃W' V' i',e= .returned (.agg (cW k r W' V' i' b c wk rm md kv pk pa))/\Below w.heap.size w w'
theorem qN(F:Nat->Prop)(xp wp:Option Addr)(m:Nat)(k r W V i b c wk rm md pk pa:Int)(ka:Option Addr)(kn kc:Nat)(w:World)(ht:fK F w xp wp m)(hW:jR W)(hV:jR V)(hi:jR i)(hb:jR b)(hc:jR c) :
  Calls prog 30 #[.agg #[.pointer xp,.pointer wp],.agg (cW k r W V i b c wk rm md (.slice ka kn kc) pk pa)] w (aMd k r b c wk rm md (.slice ka kn kc) pk pa w):=by
 obtain⟨Z,hZ⟩:∃Z,((w.alloc (Obj.cells #[.pointer xp,.pointer wp] 76)).alloc (Obj.cells (cW k r W V i b c wk rm md (.slice ka kn kc) pk pa) 73)).alloc (Obj.cells (cW 0 0 0 0 0 0 0 0 0 0 (.slice none 0 0) 0 0) 73)=Z:=⟨_,rfl⟩;have hbZ:Below w.heap.size w Z:=by rw[<-hZ];exact(((e_ _ _).alloc (a_ _) _).alloc (by simp) _).alloc (by simp;omega) _
 have bT:aD Z w.heap.size 76 #[.pointer xp,.pointer wp]:=by rw[<-hZ];exact((aD.new w _ _).alloc _).alloc _
 have bO:aD Z (w.heap.size+1) 73 (cW k r W V i b c wk rm md (.slice ka kn kc) pk pa):=by rw[<-hZ];exact(fM _ _ _ _ (by simp)).alloc _
 have bR:aD Z (w.heap.size+2) 73 (cW 0 0 0 0 0 0 0 0 0 0 (.slice none 0 0) 0 0):=by rw[<-hZ];exact fM _ _ _ _ (by simp)
 have sZ:Z.heap.size=w.heap.size+3:=by rw[<-hZ];simp
 rcases ht with⟨rfl,rfl⟩|⟨B1,B2,F1,F2,s,rfl,rfl,-,hr,-,-,hal⟩
 ·have t1:=bT.cell (o:=1) rfl
  have HBZ:=aC hbZ;have HBR:=aC bR;have HBO:=aC bO;clear hbZ hW hV hb hc hi;have o0:=bO.cell (o:=0) rfl;have o1:=bO.cell (o:=1) rfl;have o2:=bO.cell (o:=2) rfl;have o3:=bO.cell (o:=3) rfl;have o4:=bO.cell (o:=4) rfl;have o5:=bO.cell (o:=5) rfl;have o6:=bO.cell (o:=6) rfl;have o7:=bO.cell (o:=7) rfl;have o8:=bO.cell (o:=8) rfl;have o9:=bO.cell (o:=9) rfl;have o10:=bO.cell (o:=10) rfl;have o11:=bO.cell (o:=11) rfl;have o12:=bO.cell (o:=12) rfl;have r0:=bR.cell (o:=0) rfl;have r1:=bR.cell (o:=1) rfl;have r2:=bR.cell (o:=2) rfl;have r3:=bR.cell (o:=3) rfl;have r4:=bR.cell (o:=4) rfl;have r5:=bR.cell (o:=5) rfl;have r6:=bR.cell (o:=6) rfl;have r7:=bR.cell (o:=7) rfl;have r8:=bR.cell (o:=8) rfl;have r9:=bR.cell (o:=9) rfl;have r10:=bR.cell (o:=10) rfl;have r11:=bR.cell (o:=11) rfl;have r12:=bR.cell (o:=12) rfl;have fr:=bR.frozen;clear bT bO bR;go_enter func30,ntmps30
  go_wp2_with fail
  have hbz:=lB [.int .i64 k,.int .i64 r,.int .i64 W,.int .i64 V,.int .i64 i,.int .i64 b,.int .i64 c,.int .i64 wk,.int .i64 rm,.int .i64 md,.slice ka kn kc,.int .i64 pk,.int .i64 pa] HBR.out rfl;have q0:=hbz.cell (o:=0) rfl;have q1:=hbz.cell (o:=1) rfl;have q2:=hbz.cell (o:=2) rfl;have q3:=hbz.cell (o:=3) rfl;have q4:=hbz.cell (o:=4) rfl;have q5:=hbz.cell (o:=5) rfl;have q6:=hbz.cell (o:=6) rfl;have q7:=hbz.cell (o:=7) rfl;have q8:=hbz.cell (o:=8) rfl;have q9:=hbz.cell (o:=9) rfl;have q10:=hbz.cell (o:=10) rfl;have q11:=hbz.cell (o:=11) rfl;have q12:=hbz.cell (o:=12) rfl;refine bodyPost_ret (v:= .agg (cW k r W V i b c wk rm md (.slice ka kn kc) pk pa)) ?_ rfl ⟨W,V,i,rfl,?_⟩
  ·dsimp only[dR]at q0 q1 q2 q3 q4 q5 q6 q7 q8 q9 q10 q11 q12
   simp[results,results30,go_sem,q0,q1,q2,q3,q4,q5,q6,q7,q8,q9,q10,q11,q12]
  ·exact oU (show w.heap.size<=w.heap.size+2 by omega) [.int .i64 k,.int .i64 r,.int .i64 W,.int .i64 V,.int .i64 i,.int .i64 b,.int .i64 c,.int .i64 wk,.int .i64 rm,.int .i64 md,.slice ka kn kc,.int .i64 pk,.int .i64 pa] 0 _ HBZ.out
 ·obtain⟨part,-,kv,wv,lv,yv,vv,av,ps,rows,hbR,-,-,-,-,hyr,-⟩:=hr
  obtain⟨ya,yc,hyf⟩:=bG hyr.1;subst hyf;have hway:=hal.shaped.way;obtain⟨L,hL⟩:∃L,s.way.length=L:=⟨_,rfl⟩;rw[hL]at hbR hway;have HPN:Hid (1<=L->∀U,Calls prog 28 #[.int .i64 i,.int .i64 (L:Int)] U fun e w'=>∃v,e= .returned v/\v= .int .i64 (iC i L)/\U=w'):=fun h1 U=>(oH i L hi (by omega) U).mono fun e w' h=>⟨_,h.1,rfl,h.2.symm⟩
  have hwk2:=hal.fits.two;have HTWO:Hid (1<=s.workers):=by show _<=_;omega
  have HZ0:=aC hbZ;have HBT:=aC bT;have HBR0:=aC bR;have HRUN:=aC (hbR.below hbZ hbR.lt);have hB2:=hbR.lt;have HP:Hid (∀(z:Int),jR z->∀U,Calls prog 28 #[.int .i64 z,.int .i64 s.workers] U fun e w'=>∃v,e= .returned v/\v= .int .i64 (iC z s.workers)/\U=w'):=fun z hz U=>(oH z s.workers hz HTWO.out U).mono fun e w' h=>⟨_,h.1,rfl,h.2.symm⟩
  have HST:Hid (∀U,aB (·= w.heap.size+1) Z U->aD U w.heap.size 76 #[.pointer (some ⟨B1,0,none⟩),.pointer (some ⟨B2,0,none⟩)]/\aD U (w.heap.size+2) 73 (cW 0 0 0 0 0 0 0 0 0 0 (.slice none 0 0) 0 0)/\aD U B2 141 (gK s kv wv lv (.slice ya L yc) vv av)/\Below w.heap.size w U):=fun U hU=>⟨HBT.out.kept hU (by omega),HBR0.out.kept hU (by omega),HRUN.out.kept hU (by omega),HZ0.out.trans (hU.below (by omega) (fun b h=>by omega))⟩
  have HBO0:=aC bO;have HW:=aC hW;have HV:=aC hV;have hcn:jR c:=hc;have hbn:jR b:=hb;clear hbR hyr hal bT bO bR hbZ hW hV hc hb hwk2 hi hL;go_enter func30,ntmps30;have t1:=HBT.out.cell (o:=1) rfl;have o5:=HBO0.out.cell (o:=5) rfl;cases hev:(b.tmod 2==0)
  case' false=>
   go_upto_region 6 with fail
   obtain⟨HBR,HRU,HBZ⟩:Hid (aD Z (w.heap.size+2) 73 (cW 0 0 0 0 0 0 0 0 0 0 (.slice none 0 0) 0 0))/\Hid (aD Z B2 141 (gK s kv wv lv (.slice ya L yc) vv av))/\Hid (Below w.heap.size w Z):=⟨HBR0,HRUN,HZ0⟩;have HBO:=HBO0;have HTW:=HBT;clear HBO0 HBR0 HRUN HZ0 HST HP HW HV hZ t1 o5 HBT;obtain⟨W',rfl⟩:∃W',W'=W:=⟨_,rfl⟩;obtain⟨V',rfl⟩:∃V',V'=V:=⟨_,rfl⟩;obtain⟨U1,rfl⟩:∃U1,U1=Z:=⟨_,rfl⟩
  case' true=>
   have o2:=HBO0.out.cell (o:=2) rfl;have f2:=HBO0.out.frozen 2;have n0:=HRUN.out.cell (o:=0) rfl
   go_upto_region 4 with fail
   clear hZ
   go_cut [3]from 13 to 22 (fun pv wx=>pv= .pointer (some ⟨w.heap.size+1,0,none⟩)/\aB (·= w.heap.size+1) Z wx/\aD wx (w.heap.size+1) 73 (cW k r (iC W s.workers) V i b c wk rm md (.slice ka kn kc) pk pa))
   case first=>
    go_region_law (refine dY (by rfl) 28 _ _ _ (by rfl) (.int .i64 W) (.int .i64 s.workers) (by rfl) (by rfl) (enters_of func28 (by kernel_rfl) rfl) (HP.out W HW.out _) ?_;rintro v9 w9 ⟨rfl,rfl⟩)
    all_goals
     go_wp2_with fail
     go_meet
     case rel=>exact⟨rfl,by first|exact(aB.refl _ _).setCell (.inl (by rfl)) _|exact((aB.refl _ _).setCell (.inl (by rfl)) _).drew|exact((aB.refl _ _).drew).setCell (.inl (by rfl)) _,HBO0.out.setAt 2 _⟩
   case' rest=>
    obtain⟨rfl,hkc,hbc⟩:=hcut;obtain⟨U0,rfl⟩:∃U0,U0=wc:=⟨_,rfl⟩;obtain⟨hT1,hR1,hN1,hB1⟩:=HST.out U0 hkc;clear o5 o2 f2 n0 t1;have t1:=hT1.cell (o:=1) rfl;have n0:=hN1.cell (o:=0) rfl;have o3:=hbc.cell (o:=3) rfl;have f3:=hbc.frozen 3;have HBC:=aC hbc;have HKC:=aC hkc;clear hT1 hR1 hN1 hB1 hbc hkc
    go_upto_region 5 with fail
    go_cut [3]from 23 to 32 (fun pv wx=>pv= .pointer (some ⟨w.heap.size+1,0,none⟩)/\aB (·= w.heap.size+1) Z wx/\aD wx (w.heap.size+1) 73 (cW k r (iC W s.workers) (iC V s.workers) i b c wk rm md (.slice ka kn kc) pk pa))
    case first=>
     go_region_law (refine dY (by rfl) 28 _ _ _ (by rfl) (.int .i64 V) (.int .i64 s.workers) (by rfl) (by rfl) (enters_of func28 (by kernel_rfl) rfl) (HP.out V HV.out _) ?_;rintro v9 w9 ⟨rfl,rfl⟩)
     all_goals
      go_wp2_with fail
      go_meet
      case rel=>exact⟨rfl,by first|exact HKC.out.setCell (.inl (by rfl)) _|exact(HKC.out.setCell (.inl (by rfl)) _).drew|exact HKC.out.drew.setCell (.inl (by rfl)) _,HBC.out.setAt 3 _⟩
    case' rest=>
     obtain⟨rfl,hkc,hbc⟩:=hcut;obtain⟨U1,rfl⟩:∃U1,U1=wc:=⟨_,rfl⟩;obtain⟨hT1,hR1,hN1,hB1⟩:=HST.out U1 hkc;have HBO:=aC hbc;have HBR:=aC hR1;have HBZ:=aC hB1;have HTW:=aC hT1;have HRU:=aC hN1;clear o3 f3 n0 t1 hT1 hR1 hN1 hB1 hbc hkc HST HP HBC HKC HBO0 HBR0 HRUN HZ0 HBT HW HV;obtain⟨W',hW'⟩:∃W',W'=iC W s.workers:=⟨_,rfl⟩;rw[<-hW']at HBO;clear hW';obtain⟨V',hV'⟩:∃V',V'=iC V s.workers:=⟨_,rfl⟩;rw[<-hV']at HBO;clear hV'
  all_goals
   have t1:=HTW.out.cell (o:=1) rfl;have y8:=HRU.out.cell (o:=8) rfl;have o4:=HBO.out.cell (o:=4) rfl;have o6:=HBO.out.cell (o:=6) rfl;have f4:=HBO.out.frozen 4;have hUl:=HTW.out.lt;cases hec:(c.tmod 2==0)
   case' false=>
    go_upto_region 8 with fail
    obtain⟨I',rfl⟩:∃I',I'=i:=⟨_,rfl⟩;obtain⟨U2,rfl⟩:∃U2,U2=U1:=⟨_,rfl⟩;have HB2:=HBO;have HR2:=HBR;have HZ2:=HBZ;clear HBO HBR HBZ HTW HRU HPN t1 y8 o4 o6 f4
   case' true=>
    rcases Nat.eq_zero_or_pos L with hn0|hn0
    case' inl=>
     have hn1:¬(0:Int) < (L:Int):=by omega
     have hn2:¬0 < L:=by omega
     go_upto_region 8 with fail
     obtain⟨I',rfl⟩:∃I',I'=i:=⟨_,rfl⟩;obtain⟨U2,rfl⟩:∃U2,U2=U1:=⟨_,rfl⟩;have HB2:=HBO;have HR2:=HBR;have HZ2:=HBZ;clear HBO HBR HBZ HTW HRU HPN t1 y8 o4 o6 f4
    case' inr=>
     have hn1:(0:Int) < (L:Int):=by omega
     have HPL:=aC (HPN.out hn0)
     go_upto_region 7 with fail
     go_cut [3]from 46 to 55 (fun pv wx=>pv= .pointer (some ⟨w.heap.size+1,0,none⟩)/\aB (·= w.heap.size+1) U1 wx/\aD wx (w.heap.size+1) 73 (cW k r W' V' (iC i L) b c wk rm md (.slice ka kn kc) pk pa))
     case first=>
      go_region_law (refine dY (by rfl) 28 _ _ _ (by rfl) (.int .i64 i) (.int .i64 (L:Int)) (by rfl) (by rfl) (enters_of func28 (by kernel_rfl) rfl) (HPL.out _) ?_;rintro v9 w9 ⟨rfl,rfl⟩)
      all_goals
       go_wp2_with fail
       go_meet
       case rel=>exact⟨rfl,by first|exact(aB.refl _ _).setCell (.inl (by rfl)) _|exact((aB.refl _ _).setCell (.inl (by rfl)) _).drew|exact((aB.refl _ _).drew).setCell (.inl (by rfl)) _,HBO.out.setAt 4 _⟩
     case' rest=>
      obtain⟨rfl,hkc,hbc⟩:=hcut;obtain⟨U2,rfl⟩:∃U2,U2=wc:=⟨_,rfl⟩;obtain⟨I',hI'⟩:∃I',I'=iC i L:=⟨_,rfl⟩;rw[<-hI']at hbc;have HB2:=aC hbc;have HR2:=aC (HBR.out.kept hkc (by omega));have HZ2:=aC (HBZ.out.trans (hkc.below (by omega) (fun b h=>by omega)));clear hbc hkc hI' HBO HBR HBZ HTW HRU HPN HPL t1 y8 o4 o6 f4
   all_goals
    have o0:=HB2.out.cell (o:=0) rfl;have o1:=HB2.out.cell (o:=1) rfl;have o2:=HB2.out.cell (o:=2) rfl;have o3:=HB2.out.cell (o:=3) rfl;have o4:=HB2.out.cell (o:=4) rfl;have o5:=HB2.out.cell (o:=5) rfl;have o6:=HB2.out.cell (o:=6) rfl;have o7:=HB2.out.cell (o:=7) rfl;have o8:=HB2.out.cell (o:=8) rfl;have o9:=HB2.out.cell (o:=9) rfl;have o10:=HB2.out.cell (o:=10) rfl;have o11:=HB2.out.cell (o:=11) rfl;have o12:=HB2.out.cell (o:=12) rfl;have r0:=HR2.out.cell (o:=0) rfl;have r1:=HR2.out.cell (o:=1) rfl;have r2:=HR2.out.cell (o:=2) rfl;have r3:=HR2.out.cell (o:=3) rfl;have r4:=HR2.out.cell (o:=4) rfl;have r5:=HR2.out.cell (o:=5) rfl;have r6:=HR2.out.cell (o:=6) rfl;have r7:=HR2.out.cell (o:=7) rfl;have r8:=HR2.out.cell (o:=8) rfl;have r9:=HR2.out.cell (o:=9) rfl;have r10:=HR2.out.cell (o:=10) rfl;have r11:=HR2.out.cell (o:=11) rfl;have r12:=HR2.out.cell (o:=12) rfl;have fr:=HR2.out.frozen
    go_wp2_with fail
    have hbz:=lB [.int .i64 k,.int .i64 r,.int .i64 W',.int .i64 V',.int .i64 I',.int .i64 b,.int .i64 c,.int .i64 wk,.int .i64 rm,.int .i64 md,.slice ka kn kc,.int .i64 pk,.int .i64 pa] HR2.out rfl;have q0:=hbz.cell (o:=0) rfl;have q1:=hbz.cell (o:=1) rfl;have q2:=hbz.cell (o:=2) rfl;have q3:=hbz.cell (o:=3) rfl;have q4:=hbz.cell (o:=4) rfl;have q5:=hbz.cell (o:=5) rfl;have q6:=hbz.cell (o:=6) rfl;have q7:=hbz.cell (o:=7) rfl;have q8:=hbz.cell (o:=8) rfl;have q9:=hbz.cell (o:=9) rfl;have q10:=hbz.cell (o:=10) rfl;have q11:=hbz.cell (o:=11) rfl;have q12:=hbz.cell (o:=12) rfl;refine bodyPost_ret (v:= .agg (cW k r W' V' I' b c wk rm md (.slice ka kn kc) pk pa)) ?_ rfl ⟨W',V',I',rfl,?_⟩
    ·dsimp only[dR]at q0 q1 q2 q3 q4 q5 q6 q7 q8 q9 q10 q11 q12
     simp[results,results30,go_sem,q0,q1,q2,q3,q4,q5,q6,q7,q8,q9,q10,q11,q12]
    ·exact oU (show w.heap.size<=w.heap.size+2 by omega) [.int .i64 k,.int .i64 r,.int .i64 W',.int .i64 V',.int .i64 I',.int .i64 b,.int .i64 c,.int .i64 wk,.int .i64 rm,.int .i64 md,.slice ka kn kc,.int .i64 pk,.int .i64 pa] 0 _ HZ2.out
end Go.Proofs.YtfanaanofjhlkaaGreatDoor
