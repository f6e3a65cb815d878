import Derived.Test.YtfanaanofjhlkaaGreatDoorRefRing
import Derived.StillTailTactics
set_option maxHeartbeats 16000000
set_option maxRecDepth 100000
namespace Go.Proofs.YtfanaanofjhlkaaGreatDoor
open Go Go.RowKit Tryz
def eL(s:aE)(i:Int):aE×Int:=
 if dG s i≠0 then(s,dG s i)else
  match s.W[i.toNat]? with
  |none=>(s,9)
  |some x=>
   if s.mode≠1\/i=0\/x.has=false\/x.tasks≠ []then(s,9)else
    let s1:=aR s {aH with src:=i,dst:=i - 1,kind:=5,count:=x.token.count+x.sent - x.came,black:=x.token.black||x.black}
    ({s1 with W:=s1.W.set i.toNat {x with black:=false,has:=false}},0)
theorem uP(s:aE)(m:aI)(h:¬(m.kind=2\/m.kind=4)):(aR s m).W=s.W:=by
 unfold aR cB;simp only[if_neg h];split<;>rfl
theorem aEk(i:Int)(w:World):Calls prog 79 #[.pointer none,.int .i64 i] w fun e w'=>e= .returned (.int .i64 1)/\w'=w:=by
 go_enter func79,ntmps79
 go_wp2_with (go_at_call 129;refine(qD _ _).mono ?_;rintro e w1 ⟨rfl,hq⟩;obtain rfl:=hq.symm)
 go_ret;exact⟨rfl,rfl⟩
theorem aCa(F:Nat->Prop)(B N:Nat)(s:aE)(i:Int)(w:World)(hr:dW F w B s)(hs:cX s)(hN:dS N s)(hN':N<=90000000)(hc:∀x∈s.W,-100000000000000000<=x.token.count/\x.token.count<=100000000000000000) :
  Calls prog 79 #[.pointer (some ⟨B,0,none⟩),.int .i64 i] w (dE F w B (eL s i)):=by
 have HE:Hid (Calls prog 129 #[.pointer (some ⟨B,0,none⟩),.int .i64 i] w fun e w'=>e= .returned (.int .i64 (dG s i))/\w=w'):=(oC F B s i w hr).mono fun e w' h=>⟨h.1,h.2.symm⟩
 have HR:=aC hr;by_cases h1:dG s i=0
 case neg=>
  have HS:Hid (eL s i=(s,dG s i)):=by show _=_;simp[eL,h1]
  obtain⟨e1,he1⟩:∃e1,dG s i=e1:=⟨_,rfl⟩;rw[he1]at HE h1 HS;have hb:(e1==0)=false:=by rw[g_];exact h1
  clear he1 h1 hr;go_enter func79,ntmps79
  go_wp2_with (go_at_call 129;refine HE.out.mono ?_;rintro e w1 ⟨rfl,rfl⟩)
  go_ret;rw[HS.out];exact dE.same HR.out _
 obtain⟨hi0,hi1⟩:=oJ h1;rw[h1]at HE;obtain⟨k,x,rfl,hx,hk5⟩:=hs.worker hi0 hi1;obtain⟨part,hF,hat⟩:=hr;obtain⟨kv,wv,lv,yv,vv,av,ps,rows,h⟩:=hat.opened;obtain⟨p,gw,wc,hp,hwv,hgw,cw,hip,-⟩:=h.ptrW hx;subst hwv;obtain⟨tv,hpb,hpp,htr⟩:=h.wat k p x hp hx;obtain⟨ta,tc,htf⟩:=bG htr.1;subst htf;have b2:w.cell? ⟨B,2,none⟩=some (.int .i64 s.mode):=h.box.cell (o:=2) rfl;have b6:w.cell? ⟨B,6,none⟩=some (.slice (some ⟨gw,0,none⟩) ps.length wc):=h.box.cell (o:=6) rfl;have p0:w.cell? ⟨p,0,none⟩=some (.slice ta x.tasks.length tc):=hpb.cell (o:=0) rfl;have p5:w.cell? ⟨p,5,none⟩=some (.bool x.has):=hpb.cell (o:=5) rfl;have i1:(0:Int)<=(k:Int):=by omega
 have i2:(k:Int) < (ps.length:Int):=by omega
 have HH:=aC h;have HPB:=aC hpb;have HTR:=aC htr;have HF:=aC hF;have HP:=aC hp;have hxs:=hN.sent x (d_ hx);have hxc:=hN.got x (d_ hx);have hxt:=hc x (d_ hx);have HSS:=aC hs;have HNN:=aC hN;clear h hat hpb htr hF hp hs hN hc;by_cases g1:s.mode=1
 case neg=>
  have HS:Hid (eL s k=(s,9)):=by show _=_;simp[eL,h1,hx,g1]
  obtain⟨md,hmd⟩:∃md,s.mode=md:=⟨_,rfl⟩;rw[hmd]at b2 g1;have hb:(md==1)=false:=by rw[g_];exact g1
  have hb2:(md != 1)=true:=by simp[g1]
  clear h1 hx hmd;go_enter func79,ntmps79
  go_wp2_with (go_at_call 129;refine HE.out.mono ?_;rintro e w1 ⟨rfl,rfl⟩)
  go_ret;rw[HS.out];exact dE.same HR.out _
 rw[g1]at b2;by_cases g2:k=0
 ·subst g2
  have HS:Hid (eL s ((0:Nat):Int)=(s,9)):=by show _=_;simp only[eL,h1,ne_eq,not_true_eq_false,if_false,Int.toNat_natCast,hx];simp
  clear h1 hx g1;go_enter func79,ntmps79
  go_wp2_with (go_at_call 129;refine HE.out.mono ?_;rintro e w1 ⟨rfl,rfl⟩)
  go_ret;rw[HS.out];exact dE.same HR.out _
 have hkb:((k:Int)==0)=false:=by rw[g_];omega
 by_cases g3:x.has=false
 ·have HS:Hid (eL s k=(s,9)):=by show _=_;simp[eL,h1,hx,g3]
  rw[g3]at p5;clear h1 hx g1 g3;go_enter func79,ntmps79
  go_wp2_with (go_at_call 129;refine HE.out.mono ?_;rintro e w1 ⟨rfl,rfl⟩)
  go_ret;rw[HS.out];exact dE.same HR.out _
 have g3':x.has=true:=by simpa using g3
 rw[g3']at p5;by_cases g4:x.tasks=[]
 case neg=>
  have HS:Hid (eL s k=(s,9)):=by show _=_;simp[eL,h1,hx,g4]
  obtain⟨L,hL⟩:∃L,x.tasks.length=L+1:=⟨x.tasks.length - 1,by have:=List.length_pos_iff.2 g4;omega⟩;rw[hL]at p0;have hl:(0:Int) < ((L+1:Nat):Int):=by omega
  clear hL HTR HPB h1 g1 g3 g3' g4 hx;go_enter func79,ntmps79
  go_wp2_with (go_at_call 129;refine HE.out.mono ?_;rintro e w1 ⟨rfl,rfl⟩)
  go_ret;rw[HS.out];exact dE.same HR.out _
 have hl0:x.tasks.length=0:=by rw[g4];rfl
 rw[hl0]at p0;obtain⟨m,hm⟩:∃m:aI,{aH with src:=(k:Int),dst:=(k:Int) - 1,kind:=5,count:=x.token.count+x.sent - x.came,black:=x.token.black||x.black}=m:=⟨_,rfl⟩;have HS:Hid (eL s k=({aR s m with W:=(aR s m).W.set k {x with black:=false,has:=false}},0)):=by show _=_;rw[<-hm];simp[eL,h1,hx,g1,g2,g3',g4]
 have HSND:Hid (∀U,Below w.heap.size w U->Calls prog 133 #[.pointer (some ⟨B,0,none⟩),.agg (aG m)] U fun e w'=>e= .returned (.tuple #[])/\∃part2 yv2,bE part2 w' B (aR s m) kv (.slice (some ⟨gw,0,none⟩) ps.length wc) lv yv2 vv av ps rows/\cI part part2 w w'):=fun U hU=>by
  obtain⟨h9,hm9⟩:=HH.out.later hU;refine(nA m h9 HSS.out HNN.out (by omega) (by rw[<-hm];exact⟨hi0,hi1⟩) (by rw[<-hm];show 0<=(k:Int) - 1/\(k:Int) - 1 < s.workers;omega)).mono ?_;rintro e w' ⟨rfl,part2,yv2,h2,hm2⟩;exact⟨rfl,part2,yv2,h2,hm9.trans hm2⟩
 have HSW:Hid ((aR s m).W=s.W):=uP s m (by rw[<-hm];simp);have p2:w.cell? ⟨p,2,none⟩=some (.int .i64 x.sent):=HPB.out.cell (o:=2) rfl;have p3:w.cell? ⟨p,3,none⟩=some (.int .i64 x.came):=HPB.out.cell (o:=3) rfl;have p4:w.cell? ⟨p,4,none⟩=some (.bool x.black):=HPB.out.cell (o:=4) rfl;have p15:w.cell? ⟨p,15,none⟩=some (.bool x.token.black):=HPB.out.cell (o:=15) rfl;have p17:w.cell? ⟨p,17,none⟩=some (.int .i64 x.token.count):=HPB.out.cell (o:=17) rfl;have a1:IntKind.i64.wrap (x.token.count+x.sent)=x.token.count+x.sent:=IntWalk.i64_in _ (by omega);have a2:IntKind.i64.wrap (x.token.count+x.sent - x.came)=x.token.count+x.sent - x.came:=IntWalk.i64_in _ (by omega);have a3:IntKind.i64.wrap ((k:Int) - 1)=(k:Int) - 1:=IntWalk.i64_in _ (by omega);have HX:=aC hx;obtain⟨tb,htb⟩:∃tb,x.token.black=tb:=⟨_,rfl⟩;have HMC:Hid (Value.agg (aG m)= .agg (aG {aH with src:=(k:Int),dst:=(k:Int) - 1,kind:=5,count:=x.token.count+x.sent - x.came,black:=tb||x.black})):=by show _=_;rw[<-hm,htb]
 rw[htb]at p15;have HPLT:=aC HPB.out.lt;have HST:Hid (∀U,Below w.heap.size w U->Below w.heap.size w U/\U.cell? ⟨p,2,none⟩=some (.int .i64 x.sent)/\U.cell? ⟨p,3,none⟩=some (.int .i64 x.came)/\U.cell? ⟨p,4,none⟩=some (.bool x.black)/\U.cell? ⟨p,15,none⟩=some (.bool tb)/\U.cell? ⟨p,17,none⟩=some (.int .i64 x.token.count)):=fun U hU=>by
  have hP:=HPB.out.below hU HPB.out.lt;exact⟨hU,hP.cell (o:=2) rfl,hP.cell (o:=3) rfl,hP.cell (o:=4) rfl,by rw[<-htb];exact hP.cell (o:=15) rfl,hP.cell (o:=17) rfl⟩
 rw[HMC.out]at HSND;clear hm h1 hx g1 g3 g3' g4 hl0 htb;go_enter func79,ntmps79
 go_upto_region 7 with(go_at_call 129;refine HE.out.mono ?_;rintro e w1 ⟨rfl,rfl⟩)
 go_cut [76] (fun _ wx=>∃part2 yv2,bE part2 wx B (aR s m) kv (.slice (some ⟨gw,0,none⟩) ps.length wc) lv yv2 vv av ps rows/\cI part part2 w wx)
 case first=>
  cases tb with
  |true=>
   go_still_tail 31,(by kernel_rfl)
   go_wp2_with (go_at_call 133;refine(HSND.out _ ((e_ _ _).drew)).mono ?_;rintro e w3 ⟨rfl,part2,yv2,h2,hm2⟩)
   go_meet
   case rel=>exact⟨part2,yv2,h2,hm2⟩
  |false=>
   go_still_tail 31,(by kernel_rfl)
   go_wp2_with (go_at_call 133;refine(HSND.out _ ((e_ _ _).drew)).mono ?_;rintro e w3 ⟨rfl,part2,yv2,h2,hm2⟩)
   go_meet
   case rel=>exact⟨part2,yv2,h2,hm2⟩
 case rest=>
  obtain⟨part2,yv2,h6,hm6⟩:=hcut
  rename World=>w1
  have hx6:(aR s m).W[k]?= some x:=by rw[HSW.out];exact HX.out
  obtain⟨tv6,hp6,hpp6,ht6⟩:=h6.wat k p x HP.out hx6;have c4:=hp6.cell (o:=4) rfl;have c5:=hp6.cell (o:=5) rfl;have g4:=hp6.frozen 4;have g5:=hp6.frozen 5;have HH6:=aC h6;have HM6:=aC hm6;have HP6:=aC hp6;have HT6:=aC ht6;clear h6 hm6 hp6 ht6 p0 p2 p3 p4 p5 p15 p17 b2 b6 hx6
  go_wp2_with fail
  go_ret;have k5:aB (·= p) w1 ((w1.setCell ⟨p,4,none⟩ (.bool false)).setCell ⟨p,5,none⟩ (.bool false)):=((aB.refl _ _).setCell (.inl (by rfl)) _).setCell (.inl (by rfl)) _;obtain⟨h7,hm7⟩:=HH6.out.recells (x':={x with black:=false,has:=false}) (by omega) HP.out HP6.out hpp6 HT6.out k5 ((HP6.out.setAt 4 _).setAt 5 _) rfl;rw[HS.out];exact dE.of rfl h7 (HM6.out.trans hm7) HF.out
end Go.Proofs.YtfanaanofjhlkaaGreatDoor
