import Derived.Test.YtfanaanofjhlkaaGreatDoorKeepMoves
import Derived.Test.YtfanaanofjhlkaaGreatDoorKeepTold
import Derived.Test.YtfanaanofjhlkaaGreatDoorKeepBegun
namespace Go.Proofs.YtfanaanofjhlkaaGreatDoor
open Go Go.RowKit
def MovesAt(W:World)(a:Option Addr)(l:List MoveS):Prop:=∀(j:Nat) m,l[j]?= some m->MoveFits m/\∃b o,a=some ⟨b,o,none⟩/\b < W.heap.size/\∀(t:Nat) u,(moveV m)[t]?= some u->W.cell? ⟨b,o+j*4+t,none⟩=some u
structure GameOK(base N:Nat)(W:World)(G:Nat):Prop where
 ok:∃own B s ka kc av dv did over done,GameAt base own W G B s ka kc av dv did over done/\Whole N s/\Play did s/\(allTasks s.ks s.kind s.arg).length<=200
theorem GameOK.moves{base N:Nat}{W:World}{G:Nat}(H:RunCalls)(h:GameOK base N W G)(hb:base<=W.heap.size)(hN:N+12<=80000000){m:MoveS}(hm:MoveFits m):Calls Tryz.prog 14 #[.pointer (some ⟨G,0,none⟩),.agg (moveV m)] W fun e w'=>e= .returned (.tuple #[])/\GameOK base (N+6) w' G/\Below base W w':=by
 obtain⟨own,B,s,ka,kc,av,dv,did,over,done,h1,h2,h3,h4⟩:=h.ok
 have hf:=h3.few
 refine(kmoves_calls H m hm h1 h2 hN h3 hb (by omega)).mono ?_
 rintro e w' ⟨rfl,⟨own',dv',h5⟩,h6⟩
 refine⟨rfl,⟨_,_,_,_,_,_,_,_,_,_,h5,h2.move (by omega) m,h3.move h2.fine (by omega) m,?_⟩,h6⟩
 have e:=Stays.move s m
 rw[e.ks,e.kind,e.arg]
 exact h4
theorem GameOK.told{base N:Nat}{W:World}{G:Nat}(H:RunCalls)(h:GameOK base N W G)(hb:base<=W.heap.size)(hN:N+6<=80000000):Calls Tryz.prog 16 #[.pointer (some ⟨G,0,none⟩)] W fun e w'=>e= .returned (.bool true)/\GameOK base N w' G/\Below base W w':=by
 obtain⟨own,B,s,ka,kc,av,dv,did,over,done,h1,h2,h3,h4⟩:=h.ok
 refine(kannounced_calls H h1 h2 hN h3 hb h4).mono ?_
 rintro e w' ⟨rfl,own',h5,h6⟩
 exact⟨rfl,⟨_,_,_,_,_,_,_,_,_,_,h5,h2,h3,h4⟩,h6⟩
theorem begun_ok(H:RunCalls)(wk rm md kind arg:Int)(a:Option Addr)(len cap:Nat)(w:World)(f1:isI64 wk)(f2:isI64 rm)(f3:isI64 md)(f4:isI64 kind)(f5:isI64 arg)(hl:len<=9223372036854775806)(hraw:RawAt w a len) :
  Calls Tryz.prog 13 #[.agg (caseV wk rm md a len cap kind arg)] w fun e w'=>∃G,e= .returned (.pointer (some ⟨G,0,none⟩))/\GameOK w.heap.size 0 w' G/\Below w.heap.size w w':=by
 refine(begun_calls H wk rm md kind arg a len cap w f1 f2 f3 f4 f5 hl hraw).mono ?_
 rintro e w' ⟨G,own,B,s,ka,kc,av,rfl,h1,h2,h3,h4,h5⟩
 exact⟨G,rfl,⟨_,_,_,_,_,_,_,_,_,_,h1,h2,h3,h4⟩,h5⟩
set_option maxHeartbeats 4000000 in
set_option maxRecDepth 100000 in
theorem safe_calls(H:RunCalls)(wk rm md kind arg:Int)(ra:Option Addr)(rl rc:Nat)(a:Option Addr)(cap:Nat)(l:List MoveS)(w:World)(f1:isI64 wk)(f2:isI64 rm)(f3:isI64 md)(f4:isI64 kind)(f5:isI64 arg)(hl:rl<=9223372036854775806)(hraw:RawAt w ra rl)(hm:MovesAt w a l)(hn:l.length<=1000000) :
  Calls Tryz.prog 8 #[.agg (caseV wk rm md ra rl rc kind arg),.slice a l.length cap] w fun e w'=>e= .returned (.bool true)/\Below w.heap.size w w':=by
 obtain⟨V,hV⟩:∃V,w.alloc (Obj.cells (caseV wk rm md ra rl rc kind arg) 27)=V:=⟨_,rfl⟩
 have hbV:Below w.heap.size w V:=by rw[<-hV];exact(Below.refl _ _).alloc (Nat.le_refl _) _
 have bM:BoxAt V w.heap.size 27 (caseV wk rm md ra rl rc kind arg):=by rw[<-hV];exact BoxAt.new w _ _
 have HBG:=hid_of (begun_ok H wk rm md kind arg ra rl rc V f1 f2 f3 f4 f5 hl (fun j hj=>by
  obtain⟨b,o,z,h1,h2,h3,h4⟩:=hraw j hj
  exact⟨b,o,z,h1,Nat.lt_of_lt_of_le h2 hbV.size,(hbV.cell (p:=⟨b,_,none⟩) h2).trans h3,h4⟩))
 have c0:V.cell? ⟨w.heap.size,0,none⟩=some (.int .i64 wk):=bM.cell (o:=0) rfl
 have c1:V.cell? ⟨w.heap.size,1,none⟩=some (.int .i64 rm):=bM.cell (o:=1) rfl
 have c2:V.cell? ⟨w.heap.size,2,none⟩=some (.int .i64 md):=bM.cell (o:=2) rfl
 have c3:V.cell? ⟨w.heap.size,3,none⟩=some (.slice ra rl rc):=bM.cell (o:=3) rfl
 have c4:V.cell? ⟨w.heap.size,4,none⟩=some (.int .i64 kind):=bM.cell (o:=4) rfl
 have c5:V.cell? ⟨w.heap.size,5,none⟩=some (.int .i64 arg):=bM.cell (o:=5) rfl
 have HM:=hid_of hm
 have HBV:=hid_of hbV
 clear hbV bM hm hraw
 go_enter Tryz.func8,Tryz.ntmps8
 go_upto_region 4 with(go_at_call 13;refine HBG.out.mono ?_;rintro e w1 ⟨G,rfl,hG,hb1⟩)
 have HB1:Hid (Below w.heap.size w w1):=HBV.out.trans (hb1.mono HBV.out.size)
 have sV:=HBV.out.size
 have s1:=hb1.size
 have HG:=hid_of hG
 clear hG hb1 c0 c1 c2 c3 c4 c5
 go_wp2_with fail
 go_loopw [6] (fun i wr=>∃k:Nat,k<=l.length/\i= .int .i64 k/\GameOK V.heap.size (6*k) wr G/\Below w.heap.size w wr/\V.heap.size<=wr.heap.size) (fun i _=>l.length - (intOf i).toNat)
 case atStart=>exact⟨0,Nat.zero_le _,rfl,HG.out,HB1.out,s1⟩
 case round=>
  obtain⟨k,hk,rfl,hg,hbw,hsz⟩:=hrel
  by_cases hlt:k < l.length
  ·obtain⟨m,hx⟩:∃m,l[k]?= some m:=⟨_,List.getElem?_eq_getElem hlt⟩
   obtain⟨hmf,b,o,rfl,hbl,hc⟩:=HM.out k m hx
   have d0:wr.cell? ⟨b,o+k*4,none⟩=some (.int .i64 m.k):=(hbw.cell (p:=⟨b,o+k*4,none⟩) hbl).trans (hc 0 _ rfl)
   have d1:wr.cell? ⟨b,o+k*4+1,none⟩=some (.int .i64 m.w):=(hbw.cell (p:=⟨b,o+k*4+1,none⟩) hbl).trans (hc 1 _ rfl)
   have d2:wr.cell? ⟨b,o+k*4+2,none⟩=some (.int .i64 m.v):=(hbw.cell (p:=⟨b,o+k*4+2,none⟩) hbl).trans (hc 2 _ rfl)
   have d3:wr.cell? ⟨b,o+k*4+3,none⟩=some (.int .i64 m.i):=(hbw.cell (p:=⟨b,o+k*4+3,none⟩) hbl).trans (hc 3 _ rfl)
   have i1:(0:Int)<=(k:Int):=by omega
   have i2:(k:Int) < (l.length:Int):=by omega
   have HMV:=hid_of (hg.moves H hsz (by omega) hmf)
   have HBW:=hid_of hbw
   clear hc hx hg hbw hmf
   go_wp2_with (first
    |(go_at_call 14;refine HMV.out.mono ?_;rintro e w5 ⟨rfl,hg5,hb5⟩
      have s5:=hb5.size
      have HG5:=hid_of hg5
      have HB5:=hid_of hb5
      have HTL:=hid_of (hg5.told H (by omega) (by omega))
      clear hg5 hb5)
    |(go_at_call 16;refine HTL.out.mono ?_;rintro e w6 ⟨rfl,hg6,hb6⟩
      have s6:=hb6.size
      have HG6:=hid_of hg6
      have HB6:=hid_of hb6
      clear hg6 hb6))
   go_roundw
   case rel=>exact⟨k+1,by omega,by go_num,by rw[show 6*(k+1)=6*k+6 by omega];exact HG6.out,(HBW.out.trans (HB5.out.mono sV)).trans (HB6.out.mono sV),by omega⟩
   case measure=>simp[intOf];omega
  ·go_wp2_with fail
   go_ret
   exact⟨rfl,hbw⟩
set_option maxHeartbeats 4000000 in
set_option maxRecDepth 100000 in
theorem kopen_calls{base:Nat}{own:Nat->Nat}{G B:Nat}{s:RunS}{ka:Option Addr}{kc:Nat}{av dv:Value}{did:List ByteArray}{over done:Bool}{w:World}(h:GameAt base own w G B s ka kc av dv did over done) :
  Calls Tryz.prog 18 #[.pointer (some ⟨G,0,none⟩)] w fun e w'=>e= .returned (.bool (decide (did.length < (allS s).length)))/\Below w.heap.size w w':=by
 obtain⟨aa,ac,rfl⟩:=row_form h.all
 obtain⟨da,dc,rfl⟩:=row_form h.did
 have g7:w.cell? ⟨G,7,none⟩=some (.slice aa (allS s).length ac):=h.box.cell (o:=7) rfl
 have g8:w.cell? ⟨G,8,none⟩=some (.slice da did.length dc):=h.box.cell (o:=8) rfl
 clear h
 go_enter Tryz.func18,Tryz.ntmps18
 go_upto_region 1 with fail
 go_quiet (fail)
 go_wp2_with fail
 go_ret
 exact⟨rfl,below_drewN (Below.refl _ _) _⟩
set_option maxHeartbeats 8000000 in
set_option maxRecDepth 100000 in
theorem early_calls(H:RunCalls)(wk rm md kind arg:Int)(ra:Option Addr)(rl rc:Nat)(a:Option Addr)(cap:Nat)(l:List MoveS)(w:World)(f1:isI64 wk)(f2:isI64 rm)(f3:isI64 md)(f4:isI64 kind)(f5:isI64 arg)(hl:rl<=9223372036854775806)(hraw:RawAt w ra rl)(hm:MovesAt w a l)(hn:l.length<=1000000) :
  Calls Tryz.prog 10 #[.agg (caseV wk rm md ra rl rc kind arg),.slice a l.length cap] w fun e w'=>e= .returned (.bool true)/\Below w.heap.size w w':=by
 obtain⟨V,hV⟩:∃V,w.alloc (Obj.cells (caseV wk rm md ra rl rc kind arg) 27)=V:=⟨_,rfl⟩
 have hbV:Below w.heap.size w V:=by rw[<-hV];exact(Below.refl _ _).alloc (Nat.le_refl _) _
 have bM:BoxAt V w.heap.size 27 (caseV wk rm md ra rl rc kind arg):=by rw[<-hV];exact BoxAt.new w _ _
 have HBG:=hid_of (begun_ok H wk rm md kind arg ra rl rc V f1 f2 f3 f4 f5 hl (fun j hj=>by
  obtain⟨b,o,z,h1,h2,h3,h4⟩:=hraw j hj
  exact⟨b,o,z,h1,Nat.lt_of_lt_of_le h2 hbV.size,(hbV.cell (p:=⟨b,_,none⟩) h2).trans h3,h4⟩))
 have c0:V.cell? ⟨w.heap.size,0,none⟩=some (.int .i64 wk):=bM.cell (o:=0) rfl
 have c1:V.cell? ⟨w.heap.size,1,none⟩=some (.int .i64 rm):=bM.cell (o:=1) rfl
 have c2:V.cell? ⟨w.heap.size,2,none⟩=some (.int .i64 md):=bM.cell (o:=2) rfl
 have c3:V.cell? ⟨w.heap.size,3,none⟩=some (.slice ra rl rc):=bM.cell (o:=3) rfl
 have c4:V.cell? ⟨w.heap.size,4,none⟩=some (.int .i64 kind):=bM.cell (o:=4) rfl
 have c5:V.cell? ⟨w.heap.size,5,none⟩=some (.int .i64 arg):=bM.cell (o:=5) rfl
 have HM:=hid_of hm
 have HBV:=hid_of hbV
 clear hbV bM hm hraw
 go_enter Tryz.func10,Tryz.ntmps10
 go_upto_region 4 with(go_at_call 13;refine HBG.out.mono ?_;rintro e w1 ⟨G,rfl,hG,hb1⟩)
 have HB1:Hid (Below w.heap.size w w1):=HBV.out.trans (hb1.mono HBV.out.size)
 have sV:=HBV.out.size
 have s1:=hb1.size
 have HG:=hid_of hG
 clear hG hb1 c0 c1 c2 c3 c4 c5
 go_wp2_with fail
 go_loopw [6] (fun i wr=>∃k:Nat,k<=l.length/\i= .int .i64 k/\GameOK V.heap.size (12*k) wr G/\Below w.heap.size w wr/\V.heap.size<=wr.heap.size) (fun i _=>l.length - (intOf i).toNat)
 case atStart=>exact⟨0,Nat.zero_le _,rfl,HG.out,HB1.out,s1⟩
 case round=>
  obtain⟨k,hk,rfl,hg,hbw,hsz⟩:=hrel
  by_cases hlt:k < l.length
  ·obtain⟨m,hx⟩:∃m,l[k]?= some m:=⟨_,List.getElem?_eq_getElem hlt⟩
   obtain⟨hmf,b,o,rfl,hbl,hc⟩:=HM.out k m hx
   have d0:wr.cell? ⟨b,o+k*4,none⟩=some (.int .i64 m.k):=(hbw.cell (p:=⟨b,o+k*4,none⟩) hbl).trans (hc 0 _ rfl)
   have d1:wr.cell? ⟨b,o+k*4+1,none⟩=some (.int .i64 m.w):=(hbw.cell (p:=⟨b,o+k*4+1,none⟩) hbl).trans (hc 1 _ rfl)
   have d2:wr.cell? ⟨b,o+k*4+2,none⟩=some (.int .i64 m.v):=(hbw.cell (p:=⟨b,o+k*4+2,none⟩) hbl).trans (hc 2 _ rfl)
   have d3:wr.cell? ⟨b,o+k*4+3,none⟩=some (.int .i64 m.i):=(hbw.cell (p:=⟨b,o+k*4+3,none⟩) hbl).trans (hc 3 _ rfl)
   have i1:(0:Int)<=(k:Int):=by omega
   have i2:(k:Int) < (l.length:Int):=by omega
   have HMV:=hid_of (hg.moves H hsz (by omega) hmf)
   have HBW:=hid_of hbw
   clear hc hx hg hbw hmf
   go_upto_region 8 with(go_at_call 14;refine HMV.out.mono ?_;rintro e w5 ⟨rfl,hg5,hb5⟩)
   obtain⟨own,B,s,ka,kc,av,dv,did,over,done,h1,h2,h3,h4⟩:=hg5.ok
   have s5:=hb5.size
   have HOP:=hid_of (kopen_calls h1)
   have HB5:=hid_of hb5
   have H1:=hid_of h1
   have H2:=hid_of h2
   have H3:=hid_of h3
   clear hg5 hb5 h1 h2 h3 HMV d0 d1 d2 d3
   go_upto_region 9 with(go_at_call 18;refine HOP.out.mono ?_;rintro e w6 ⟨rfl,hb6⟩)
   have s6:=hb6.size
   have h6:=H1.out.later hb6
   have g0:w6.cell? ⟨G,0,none⟩=some (.pointer (some ⟨B,0,none⟩)):=h6.box.cell (o:=0) rfl
   have HCK:=hid_of (H.check _ B (12*k+6) s w6 h6.run H2.out (by omega))
   have H6:=hid_of h6
   have HB6:=hid_of hb6
   clear h6 hb6 HOP H1
   go_upto_region 10 with(go_at_call 19;refine HCK.out.mono ?_;rintro e w7 ⟨rfl,hx7,hk7⟩)
   have s7:=hk7.size
   have h7:=H6.out.ran (by omega) hk7 hx7 (Stays.check s)
   have hb7:Below V.heap.size w6 w7:=hk7.below (by omega) (fun g e=>H6.out.new g (by omega))
   have hW7:Whole (12*(k+1)) (checkS s).1:=(H2.out.check (by omega)).more (by omega)
   have hP7:=H3.out.check H2.out.fine (by omega)
   have g0':w7.cell? ⟨G,0,none⟩=some (.pointer (some ⟨B,0,none⟩)):=h7.box.cell (o:=0) rfl
   have HAN:=hid_of (H.announced _ B (12*(k+1)) did (checkS s).1 w7 h7.run hW7 (by omega) hP7)
   have hdl:(checkS s).1.done=true->did.length=(allS s).length:=fun hd=>by
    have:=(hP7.announced hW7.fine hd).2.1
    rw[this,<-(Stays.check s).all]
    unfold allS
    rw[pairsOf_length]
   have H7:=hid_of h7
   have HB7:=hid_of hb7
   have HW7:=hid_of hW7
   have HP7:=hid_of hP7
   clear h7 hb7 hW7 hP7 hx7 hk7 g0 HCK H6
   go_upto_region 11 with(go_at_call 20;refine HAN.out.mono ?_;rintro e w8 ⟨v8,rfl,hv8,hb8⟩)
   have s8:=hb8.size
   have h8:=H7.out.later hb8
   have y10:w8.cell? ⟨G,10,none⟩=some (.bool done):=h8.box.cell (o:=10) rfl
   have z10:=h8.box.frozen 10
   obtain⟨own9,h9,hb9⟩:=h8.told (by omega) (checkS s).1.done
   have H9:=hid_of h9
   have HB9:Hid (Below w.heap.size w (w8.setCell ⟨G,10,none⟩ (.bool (checkS s).1.done))):=((((HBW.out.trans (HB5.out.mono sV)).trans (HB6.out.mono (by omega))).trans (HB7.out.mono sV)).trans (hb8.mono (by omega))).trans (hb9.mono sV)
   have s9:=hb9.size
   have H4:Hid ((allTasks (checkS s).1.ks (checkS s).1.kind (checkS s).1.arg).length<=200):=by
    have e:=Stays.check s
    show _<=_
    rw[e.ks,e.kind,e.arg]
    exact h4
   clear h8 h9 hb8 hb9 hv8 HAN H7
   obtain⟨dn,hdn⟩:∃dn,(checkS s).1.done=dn:=⟨_,rfl⟩
   obtain⟨op,hop⟩:∃op,decide (did.length < (allS s).length)=op:=⟨_,rfl⟩
   have hdo:dn=true->op=false:=fun e=>by
    rw[<-hop]
    refine decide_eq_false ?_
    rw[hdl (hdn.trans e)]
    omega
   rw[hdn]at H9 HB9 s9
   rw[hdn,hop]
   clear hdl hop
   have fin:GameOK V.heap.size (12*(k+1)) (w8.setCell ⟨G,10,none⟩ (.bool dn)) G:=⟨_,_,_,_,_,_,_,_,_,_,H9.out,HW7.out,HP7.out,H4.out⟩
   have HF:=hid_of fin
   clear fin hdn
   cases dn
   ·go_wp2_with fail
    go_roundw
    case rel=>exact⟨k+1,by omega,by go_num,HF.out,HB9.out,by omega⟩
    case measure=>simp[intOf];omega
   ·have:=hdo rfl
    subst this
    go_wp2_with fail
    go_roundw
    case rel=>exact⟨k+1,by omega,by go_num,HF.out,HB9.out,by omega⟩
    case measure=>simp[intOf];omega
  ·go_wp2_with fail
   go_ret
   exact⟨rfl,hbw⟩
end Go.Proofs.YtfanaanofjhlkaaGreatDoor
