import Derived.Test.YtfanaanofjhlkaaGreatDoorMarkV
set_option maxHeartbeats 16000000
set_option maxRecDepth 100000
namespace Go.Proofs.YtfanaanofjhlkaaGreatDoor
open Go Go.RowKit Tryz
theorem aLx:prog.stoodInHeld 53=false:=by kernel_rfl
theorem aLf:prog.eqGuardType prog.depth 53=false:=by kernel_rfl
theorem kI.kinds{W:World}{BL:Nat}{K:Nat->Nat}{ks:List aS}(h:kI W BL K ks):bH (fun b=>BL<=b) W (.slice (some ⟨BL,0,none⟩) ks.length (ks.length+8)) ks:=by
 obtain⟨cs,h1,h2,h3,h4⟩:=h;refine⟨_,_,rfl,fun j c hj=> ?_⟩;have hjl:=(c_.1 hj).1;obtain⟨⟨c0,c1,c2⟩,⟨ck,g1,g2,g3,g4⟩,h5,h6⟩:=h3.1 j c hjl hj;refine⟨BL,0,_,rfl,a_ _,h1.lt,by rw[Nat.zero_add];exact h1.cell c0,by rw[Nat.zero_add];exact h1.cell c1,by rw[Nat.zero_add];exact h1.cell c2,_,_,rfl,fun i d hd=> ?_⟩;obtain⟨e0,e1⟩:=g3 i d hd;exact⟨K j,0,rfl,Nat.le_of_lt h5,h6,by rw[Nat.zero_add];exact g1.cell e0,by rw[Nat.zero_add];exact g1.cell e1⟩
theorem kI.below{n:Nat}{W W':World}{BL:Nat}{K:Nat->Nat}{ks:List aS}(h:kI W BL K ks)(hb:Below n W W')(hn:W.heap.size<=n):kI W' BL K ks:=by
 obtain⟨cs,h1,h2,h3,h4⟩:=h;have hk:aB (fun b=>W.heap.size<=b) W W':=aB.of_below hb (fun k _ h=>by omega);refine⟨cs,h1.kept hk (by have:=h1.lt;omega),h2,⟨fun j c hj hc=> ?_,h3.2⟩,h4⟩;obtain⟨g1,g2,g3,g4⟩:=h3.1 j c hj hc;exact⟨g1,g2.kept hk (by omega),g3,Nat.lt_of_lt_of_le g4 hk.size⟩
def pK(W:World)(K:Nat->Nat)(ks:List aS)(m:Nat)(cs:Array Value):Prop:=
 ∀j c,m<=j->ks[j]?= some c->(cs[j*3]?= some (.int .i64 c.A)/\cs[j*3+1]?= some (.int .i64 c.B)/\cs[j*3+2]?= some (.slice (some ⟨K j,0,none⟩) c.kids.length (c.kids.length+8)))/\mL W (K j) c.kids
theorem yC(a:Option Addr)(cap:Nat)(kind arg:Int)(ks:List aS)(BL S:Nat)(K:Nat->Nat)(w:World)(hx:kI w BL K ks)(hp:bH (fun b=>b < BL) w (.slice a ks.length cap) ks)(hS:BL < S)(hK:∀j,j < ks.length->K j < S)(hSw:S<=w.heap.size)
  (hl:ks.length*40<=140737488351232) (hl2:∀k∈ks,k.kids.length*16<=140737488351232) :
  Calls prog 62 #[.agg #[.slice (some ⟨BL,0,none⟩) ks.length (ks.length+8),.int .i64 kind,.int .i64 arg],.agg #[.slice a ks.length cap,.int .i64 kind,.int .i64 arg]] w fun e w'=>e= .returned (.bool true)/\aB (fun b=>BL<=b/\b < S) w w':=by
 have kh:=aLx;have kg:=aLf;go_enter func62,ntmps62
 go_upto_region 1 with fail
 obtain⟨V,hV⟩:∃V,(w.alloc (Obj.cells #[.slice (some ⟨BL,0,none⟩) ks.length (ks.length+8),.int .i64 kind,.int .i64 arg] 41)).alloc (Obj.cells #[.slice a ks.length cap,.int .i64 kind,.int .i64 arg] 41)=V:=⟨_,rfl⟩;have bX:aD V w.heap.size 41 #[.slice (some ⟨BL,0,none⟩) ks.length (ks.length+8),.int .i64 kind,.int .i64 arg]:=by rw[<-hV];exact(aD.new w _ _).alloc _
 have bP:aD V (w.heap.size+1) 41 #[.slice a ks.length cap,.int .i64 kind,.int .i64 arg]:=by
  rw[<-hV];have:=aD.new (w.alloc (Obj.cells #[.slice (some ⟨BL,0,none⟩) ks.length (ks.length+8),.int .i64 kind,.int .i64 arg] 41)) 41 #[.slice a ks.length cap,.int .i64 kind,.int .i64 arg];simpa only[World.size_alloc]using this
 have hbV:Below w.heap.size w V:=by rw[<-hV];exact((e_ _ _).alloc (a_ _) _).alloc (by simp) _
 have sV:V.heap.size=w.heap.size+2:=by rw[<-hV];simp
 rw[hV];clear hV;obtain⟨cs,hbl,hcsz,hkl,hsp⟩:=hx.below hbV (a_ _);have hKm:∀j j',j < j'->j' < ks.length->K j < K j':=fun j j' h1 h2=>hkl.2 j j' h1 h2 h2
 have hKB:∀j c,ks[j]?= some c->BL < K j/\K j < V.heap.size:=fun j c hj=>(hkl.1 j c (c_.1 hj).1 hj).2.2
 have hfrom:pK V K ks 0 cs:=fun j c _ hj=>by
  obtain⟨h1,h2,_⟩:=hkl.1 j c (c_.1 hj).1 hj;exact⟨h1,h2⟩
 have x0:=bX.cell (o:=0) rfl;have p0:=bP.cell (o:=0) rfl;have n1:(0:Int)<=(ks.length:Int):=by omega
 clear hkl
 go_wp2_with fail
 go_loopw [5,7] (fun okv iv wr=>∃(q:Nat) (cs2:Array Value),ks.length<=q/\q<=ks.length+8/\iv= .int .i64 q/\okv= .bool true/\aD wr BL 56 cs2/\cs2.size=(ks.length+8)*3/\pK wr K ks 0 cs2/\(∀j,q<=j->j < ks.length+8->cs2[j*3]?= some (.int .i64 (-78))/\cs2[j*3+1]?= some (.int .i64 0)/\cs2[j*3+2]?= some (.slice none 0 0))/\aB (fun b=>BL<=b/\b < S) V wr) (fun _ iv _=>ks.length+8 - (intOf iv).toNat)
 case atStart=>exact⟨ks.length,cs,a_ _,by omega,rfl,by simp,hbl,hcsz,hfrom,fun j h1 h2=>hsp j h1 h2,aB.refl _ _⟩
 case round=>
  obtain⟨q,cs2,hq1,hq2,rfl,rfl,hbk,hszk,hfr,hsq,hkY⟩:=hrel
  rename World=>Wy
  have HBK:Hid (aD Wy BL 56 cs2):=hbk;have HFR:Hid (pK Wy K ks 0 cs2):=hfr;have HSQ:Hid (∀j,q<=j->j < ks.length+8->cs2[j*3]?= some (.int .i64 (-78))/\cs2[j*3+1]?= some (.int .i64 0)/\cs2[j*3+2]?= some (.slice none 0 0)):=hsq;have HKY:Hid (aB (fun b=>BL<=b/\b < S) V Wy):=hkY;have hsY:=hkY.size;have bPy:=bP.kept hkY (by omega);have q0:=bPy.cell (o:=0) rfl;have hltb:=hbk.lt;clear hbk hfr hsq hkY;by_cases hql:q < ks.length+8
  ·obtain⟨s0,s1,s2⟩:=HSQ.out q (a_ _) hql
   have y0:=HBK.out.cell s0;have y2:=HBK.out.cell s2;have z0:=HBK.out.frozen (q*3);have j1:(0:Int)<=(q:Int):=by omega
   have j2:(q:Int) < (ks.length:Int)+8:=by omega
   clear s1
   go_wp2_with fail
   go_roundw
   case rel=>
    have hset:aB (·= BL) Wy (Wy.setCell ⟨BL,q*3,none⟩ (.int .i64 (-79))):=(aB.refl _ _).setCell (.inl (by rfl)) _;refine⟨q+1,_,by omega,by omega,by go_num,rfl,HBK.out.setAt (q*3) _,by simpa using hszk,fun j c hj hc=> ?_,fun j h1 h2=> ?_,HKY.out.setCell (.inl ⟨a_ _,hS⟩) _⟩
    ·have hjl:=(c_.1 hc).1
     obtain⟨⟨h1,h2,h3⟩,h4⟩:=HFR.out j c hj hc;rw[i_ (by omega),i_ (by omega),i_ (by omega)];have:=hKB j c hc;exact⟨⟨h1,h2,h3⟩,h4.kept hset (by omega)⟩
    ·rw[i_ (by omega),i_ (by omega),i_ (by omega)]
     exact HSQ.out j (by omega) h2
   case measure=>simp[intOf];omega
  ·obtain rfl:q=ks.length+8:=by omega
   go_wp2_with fail
   go_loopw [5,8] (fun okv iv wr=>∃(m:Nat) (cs3:Array Value),m<=ks.length/\iv= .int .i64 m/\okv= .bool true/\aD wr BL 56 cs3/\cs3.size=(ks.length+8)*3/\pK wr K ks m cs3/\aB (fun b=>BL<=b/\b < S) V wr) (fun _ iv _=>ks.length - (intOf iv).toNat)
   case atStart=>exact⟨0,cs2,Nat.zero_le _,rfl,rfl,HBK.out,hszk,HFR.out,HKY.out⟩
   case round=>
    obtain⟨m,cs3,hm,rfl,rfl,hbo,hszo,hfo,hko⟩:=hrel
    rename World=>Wo
    have HBO:Hid (aD Wo BL 56 cs3):=hbo;have HFO:Hid (pK Wo K ks m cs3):=hfo;have HKO:Hid (aB (fun b=>BL<=b/\b < S) V Wo):=hko;have hsO:=hko.size;have bPo:=bP.kept hko (by omega);clear q0;have q0:=bPo.cell (o:=0) rfl;clear hbo hfo hko;by_cases hlt:m < ks.length
    ·obtain⟨c,hcc⟩:∃c,ks[m]?= some c:=⟨_,b_ hlt⟩
     obtain⟨⟨s0,s1,s2⟩,s3⟩:=HFO.out m c (a_ _) hcc;have HKM:Hid (mL Wo (K m) c.kids):=s3;have y0:=HBO.out.cell s0;have y1:=HBO.out.cell s1;have y2:=HBO.out.cell s2;obtain⟨_,_,e0,hc⟩:=hp;simp only[Value.slice.injEq]at e0;obtain⟨rfl,-,rfl⟩:=e0;obtain⟨b,o,kv,rfl,hob,hbw,c0,c1,c2,hkk⟩:=hc m c hcc;obtain⟨a',cap',rfl,h'⟩:=hkk;have cellP:∀{W':World},aB (fun b=>BL<=b/\b < S) V W'->∀(g i:Nat) (v:Value),g < BL->g < w.heap.size->w.cell? ⟨g,i,none⟩=some v->W'.cell? ⟨g,i,none⟩=some v:=fun hk' g i v h1 h2 h3=>
      ((hk'.cell (p:=⟨g,i,none⟩) (by simp;omega) (by simp;omega)).trans (hbV.cell (p:=⟨g,i,none⟩) h2)).trans h3
     have d0:=cellP HKO.out b _ _ hob hbw c0;have d1:=cellP HKO.out b _ _ hob hbw c1;have d2:=cellP HKO.out b _ _ hob hbw c2;have hcl:=hl2 c (d_ hcc);have hkm:=hKB m c hcc;have hkS:=hK m hlt;have i1:(0:Int)<=(m:Int):=by omega
     have i2:(m:Int) < (ks.length:Int):=by omega
     have i3:(m:Int) < (ks.length:Int)+8:=by omega
     have l1:(0:Int)<=(c.kids.length:Int):=by omega
     have l2:(c.kids.length:Int)+8<=(c.kids.length:Int)+8:=by omega
     clear s0 s1 s2 s3 hc
     go_wp2_with fail
     go_quiet (fail)
     go_wp2_with fail
     go_quiet (fail)
     go_wp2_with fail
     have HPK:Hid (∀i d,c.kids[i]?= some d->∃b' o',a'=some ⟨b',o',none⟩/\b' < BL/\b' < w.heap.size/\w.cell? ⟨b',o'+i*2,none⟩=some (.int .i64 d.kind)/\w.cell? ⟨b',o'+i*2+1,none⟩=some (.int .i64 d.less)):=h';obtain⟨ck0,hck,hckz,hckd,hcks⟩:=HKM.out;clear h' y0 y1 y2 d0 d1 d2 c0 c1 q0
     go_loopw [5,10] (fun okv jv wr=>∃(q:Nat) (ck:Array Value),q<=c.kids.length+8/\jv= .int .i64 q/\okv= .bool true/\aD wr (K m) 53 ck/\ck.size=(c.kids.length+8)*2/\(∀j d,q<=j->c.kids[j]?= some d->ck[j*2]?= some (.int .i64 d.kind)/\ck[j*2+1]?= some (.int .i64 d.less))/\(∀j,q<=j->c.kids.length<=j->j < c.kids.length+8->ck[j*2]?= some (.int .i64 0)/\ck[j*2+1]?= some (.int .i64 (-77)))/\aB (·= K m) Wo wr) (fun _ jv _=>c.kids.length+8 - (intOf jv).toNat)
     case atStart=>exact⟨0,ck0,Nat.zero_le _,rfl,rfl,hck,hckz,fun j d _ hd=>hckd j d hd,fun j _ h1 h2=>hcks j h1 h2,((aB.refl _ _).drewN _).drewN _⟩
     case round=>
      obtain⟨q,ck,hq,rfl,rfl,hbk3,hsz3,hd3,hs3,hk3⟩:=hrel
      rename World=>W3
      have hkX:aB (fun b=>BL<=b/\b < S) V W3:=HKO.out.trans (hk3.mono (fun _ _ e=>by omega));have HB3:Hid (aD W3 (K m) 53 ck):=hbk3;have HD3:Hid (∀j d,q<=j->c.kids[j]?= some d->ck[j*2]?= some (.int .i64 d.kind)/\ck[j*2+1]?= some (.int .i64 d.less)):=hd3;have HS3:Hid (∀j,q<=j->c.kids.length<=j->j < c.kids.length+8->ck[j*2]?= some (.int .i64 0)/\ck[j*2+1]?= some (.int .i64 (-77))):=hs3;have HK3:Hid (aB (·= K m) Wo W3):=hk3;have HKX:Hid (aB (fun b=>BL<=b/\b < S) V W3):=hkX;have hs3z:=hkX.size;have bP3:=bP.kept hkX (by omega);have r0:=bP3.cell (o:=0) rfl;have d2:=cellP hkX b _ _ hob hbw c2;clear hbk3 hd3 hs3 hk3 hkX;by_cases hql:q < c.kids.length+8
      ·have z0:=HB3.out.frozen (q*2)
       have z1:=HB3.out.frozen (q*2+1);have j1:(0:Int)<=(q:Int):=by omega
       have j2:(q:Int) < (c.kids.length:Int)+8:=by omega
       have HEND:Hid (∀W4:World,aB (fun _=>False) W3 W4->∃(q':Nat) (ck:Array Value),q'<=c.kids.length+8/\(Value.int IntKind.i64 ((q:Int)+1))= .int .i64 q'/\aD ((W4.setCell ⟨K m,q*2,none⟩ (.int .i64 (-1))).setCell ⟨K m,q*2+1,none⟩ (.int .i64 (-80))) (K m) 53 ck/\ck.size=(c.kids.length+8)*2/\(∀j d,q'<=j->c.kids[j]?= some d->ck[j*2]?= some (.int .i64 d.kind)/\ck[j*2+1]?= some (.int .i64 d.less))/\(∀j,q'<=j->c.kids.length<=j->j < c.kids.length+8->ck[j*2]?= some (.int .i64 0)/\ck[j*2+1]?= some (.int .i64 (-77)))/\aB (·= K m) Wo ((W4.setCell ⟨K m,q*2,none⟩ (.int .i64 (-1))).setCell ⟨K m,q*2+1,none⟩ (.int .i64 (-80)))):=fun W4 h4=>by
        obtain⟨t1,t2,t3,t4⟩:=zT ck q (.int .i64 (-1)) (.int .i64 (-80)) (by omega);refine⟨q+1,_,by omega,by go_num,((HB3.out.kept h4 (fun h=>h)).setAt (q*2) _).setAt (q*2+1) _,by rw[t1];exact hsz3,fun j d hj hd=> ?_,fun j h0 h1 h2=> ?_,((HK3.out.trans (h4.mono (fun _ _ h=>h.elim))).setCell (.inl rfl) _).setCell (.inl rfl) _⟩
        ·rw[(t4 j (by omega)).1,(t4 j (by omega)).2]
         exact HD3.out j d (by omega) hd
        ·rw[(t4 j (by omega)).1,(t4 j (by omega)).2]
         exact HS3.out j (by omega) h1 h2
       by_cases hqk:q < c.kids.length
       ·obtain⟨d,hd⟩:∃d,c.kids[q]?= some d:=⟨_,b_ hqk⟩
        obtain⟨s0,s1⟩:=HD3.out q d (a_ _) hd;have y0:=HB3.out.cell s0;have y1:=HB3.out.cell s1;obtain⟨b',o',rfl,hb',hb'',e0,e1⟩:=HPK.out q d hd;have x0:=cellP HKX.out b' _ _ hb' hb'' e0;have x1:=cellP HKX.out b' _ _ hb' hb'' e1;have j3:(q:Int) < (c.kids.length:Int):=by omega
        have j4:decide ((c.kids.length:Int)<=(q:Int))=false:=by simp;omega
        have j5:decide (c.kids.length<=q)=false:=by simp;omega
        have j6:decide ((q:Int) < (c.kids.length:Int))=true:=by simp;omega
        have j7:decide (q < c.kids.length)=true:=by simp;omega
        clear s0 s1 e0 e1
        go_wp2_with fail
        go_quiet (fail)
        go_wp2_with fail
        go_roundw
        case rel=>
         obtain⟨q',ck',h1,h2,h3⟩:=HEND.out _ ((aB.refl _ _).drewN _);exact⟨q',ck',h1,h2,rfl,h3⟩
        case measure=>simp[intOf];omega
       ·obtain⟨s0,s1⟩:=HS3.out q (a_ _) (by omega) hql
        have y0:=HB3.out.cell s0;have y1:=HB3.out.cell s1;have j4:decide ((c.kids.length:Int)<=(q:Int))=true:=by simp;omega
        have j5:decide (c.kids.length<=q)=true:=by simp;omega
        have j6:decide ((q:Int) < (c.kids.length:Int))=false:=by simp;omega
        have j7:decide (q < c.kids.length)=false:=by simp;omega
        clear s0 s1
        go_wp2_with fail
        go_quiet (fail)
        go_wp2_with fail
        go_roundw
        case rel=>
         obtain⟨q',ck',h1,h2,h3⟩:=HEND.out _ ((aB.refl _ _).drewN _);exact⟨q',ck',h1,h2,rfl,h3⟩
        case measure=>simp[intOf];omega
      ·obtain rfl:q=c.kids.length+8:=by omega
       have hbl3:=HBO.out.kept HK3.out (by omega);have HBL3:Hid (aD W3 BL 56 cs3):=hbl3;obtain⟨v0,hv0⟩:=dN (cs:=cs3) (i:=m*3) (by omega);obtain⟨v1,hv1⟩:=dN (cs:=cs3) (i:=m*3+1) (by omega);obtain⟨v2,hv2⟩:=dN (cs:=cs3) (i:=m*3+2) (by omega);have y0:=hbl3.cell hv0;have y1:=hbl3.cell hv1;have y2:=hbl3.cell hv2;have z0:=hbl3.frozen (m*3);have z1:=hbl3.frozen (m*3+1);have z2:=hbl3.frozen (m*3+2);clear hbl3
       go_wp2_with fail
       go_roundw
       case rel=>
        obtain⟨t1,t2,t3,t4,t5⟩:=uV cs3 m (.int .i64 (-81)) (.int .i64 0) (.slice none 0 0) (by omega);have hset:∀{X:Nat->Prop} {A:World},X BL->aB X A W3->aB X A (((W3.setCell ⟨BL,m*3,none⟩ (.int .i64 (-81))).setCell ⟨BL,m*3+1,none⟩ (.int .i64 0)).setCell ⟨BL,m*3+2,none⟩ (.slice none 0 0)):=fun hX h=>((h.setCell (.inl hX) _).setCell (.inl hX) _).setCell (.inl hX) _
        repeat apply Exists.intro
        refine⟨⟨m+1,_,hlt,by go_num,rfl,((HBL3.out.setAt (m*3) _).setAt (m*3+1) _).setAt (m*3+2) _,by rw[t1];exact hszo,fun j c' hj hc'=> ?_,hset ⟨a_ _,hS⟩ HKX.out⟩,rfl⟩;obtain⟨h1,h4⟩:=HFO.out j c' (by omega) hc';have hjm:j≠m:=by omega
        have hjl:=(c_.1 hc').1;have:=hKm m j (by omega) hjl;have:=hKB j c' hc';rw[(t5 j hjm).1,(t5 j hjm).2.1,(t5 j hjm).2.2];refine⟨h1,(h4.kept HK3.out (by omega)).kept (hset (X:=(·= BL)) rfl (aB.refl _ _)) (by omega)⟩
       case measure=>simp[intOf];omega
    ·obtain rfl:m=ks.length:=by omega
     go_wp2_with fail
     go_ret;exact⟨rfl,(aB.of_below hbV (fun k _ h=>by omega)).trans HKO.out⟩
end Go.Proofs.YtfanaanofjhlkaaGreatDoor
