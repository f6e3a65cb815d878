import Derived.Test.YtfanaanofjhlkaaGreatDoorRefWork
import Derived.Test.YtfanaanofjhlkaaGreatDoorMarkV
set_option maxHeartbeats 16000000
set_option maxRecDepth 100000
namespace Go.Proofs.YtfanaanofjhlkaaGreatDoor
open Go Go.RowKit Tryz
theorem vM(F:Nat->Prop)(B:Nat)(N:Nat)(came:Int)(kV wV kT wT kM wM lv:Value)(bs:List Bk)(n:Nat)(xs:List Value)(w:World)(hF:∀b,w.heap.size<=b->F b)(hI:gC F (fun g _=>F g) w B N came kV wV kT wT kM wM bs)
  (hl:w.ownsRow 0 124 15 lv n xs) (hlF:∀g,lv.ownBlock=some g->¬F g) (hN:N<=400000000000) (hbs:bs.length<=1700000000000) (hn:n<=1000000) :
  Calls prog 127 #[.pointer (some ⟨B,0,none⟩),lv] w fun e w'=>e= .returned (.tuple #[])/\∃bs',bs'.length=4/\gC (fun b=>F b\/lv.ownBlock=some b) (fun b _=>F b\/lv.ownBlock=some b) w' B (N+1:Nat) came kV wV kT wT kM wM (bs++bs')/\aB (fun b=>F b\/lv.ownBlock=some b) w w':=by
 obtain⟨i0,hi,hz0,hz1,hz2⟩:=info_parts uL;obtain⟨i1,hi1,hy0,hy1,hy2⟩:=info_parts jS;obtain⟨vA,hbB,hrA,hFB,hFA,hmk⟩:=hI;have HMK:Hid (∀x∈bs,eT w (fun g _=>F g) x):=hmk;have HF:Hid (∀b,w.heap.size<=b->F b):=hF;have HLF:Hid (∀g,lv.ownBlock=some g->¬F g):=hlF;have HFA:Hid (∀g,vA.ownBlock=some g->F g):=hFA;have HL:Hid (w.ownsRow 0 124 15 lv n xs):=hl;have HRA:Hid (w.ownsRow 0 143 4 vA bs.length (eD bs)):=hrA;have hBl:=hbB.lt;have b0:=hbB.cell (o:=0) rfl;have f0:=hbB.frozen 0;clear hmk hF hlF hFA hl hrA;go_enter func127,ntmps127;have wr1:IntKind.i64.wrap ((N:Int)+1)=(N:Int)+1:=IntWalk.i64_in _ (by omega);have wr2:IntKind.i64.wrap (-((N:Int)+1))=(-((N:Int)+1)):=IntWalk.i64_in _ (by omega)
 go_upto_region 2 with fail
 obtain⟨V,hV⟩:∃V,(w.setCell ⟨B,0,none⟩ (.int .i64 ((N:Int)+1))).alloc (Obj.cells #[.int .i64 0,.int .i64 0,.int .i64 (-((N:Int)+1)),.int .i64 0,.string ⟨#[]⟩,.int .i64 0,.int .i64 0,.string ⟨#[]⟩,.int .i64 0,.bool false,.bool false,.int .i64 0,.int .i64 0,.int .i64 0,.int .i64 0] 124)=V:=⟨_,rfl⟩;have bB:aD V B 71 (eA ((N:Int)+1) came kV wV kT wT kM wM vA):=by rw[<-hV];exact(hbB.setAt 0 _).alloc _
 have bM:aD V w.heap.size 124 #[.int .i64 0,.int .i64 0,.int .i64 (-((N:Int)+1)),.int .i64 0,.string ⟨#[]⟩,.int .i64 0,.int .i64 0,.string ⟨#[]⟩,.int .i64 0,.bool false,.bool false,.int .i64 0,.int .i64 0,.int .i64 0,.int .i64 0]:=by
  rw[<-hV];have:=aD.new (w.setCell ⟨B,0,none⟩ (.int .i64 ((N:Int)+1))) 124 #[.int .i64 0,.int .i64 0,.int .i64 (-((N:Int)+1)),.int .i64 0,.string ⟨#[]⟩,.int .i64 0,.int .i64 0,.string ⟨#[]⟩,.int .i64 0,.bool false,.bool false,.int .i64 0,.int .i64 0,.int .i64 0,.int .i64 0];simpa using this
 have kV0:aB (·= B) w V:=by rw[<-hV];exact((aB.refl _ _).setCell (.inl (by rfl)) _).trans (aB.alloc _ _ _)
 have sV:V.heap.size=w.heap.size+1:=by rw[<-hV];simp
 rw[hV];clear hV b0 f0;have hLB:lv.ownBlock≠some B:=bF HL.out hbB (by decide);have hAB:vA.ownBlock≠some B:=bF HRA.out hbB (by decide);have HLV:Hid (V.ownsRow 0 124 15 lv n xs):=aP HL.out kV0 (fun g e h=>hLB (by rw[e,h])) (a_ _);have HRV:Hid (V.ownsRow 0 143 4 vA bs.length (eD bs)):=aP HRA.out kV0 (fun g e h=>hAB (by rw[e,h])) (a_ _);have HLT:Hid (∀g,lv.ownBlock=some g->g < w.heap.size):=fun g e=>(HL.out.lt g e).2
 have HBB:Hid (aD V B 71 (eA ((N:Int)+1) came kV wV kT wT kM wM vA)):=bB;have HBM:Hid (aD V w.heap.size 124 #[.int .i64 0,.int .i64 0,.int .i64 (-((N:Int)+1)),.int .i64 0,.string ⟨#[]⟩,.int .i64 0,.int .i64 0,.string ⟨#[]⟩,.int .i64 0,.bool false,.bool false,.int .i64 0,.int .i64 0,.int .i64 0,.int .i64 0]):=bM;have HKV:Hid (aB (·= B) w V):=kV0;have HB0:Hid (aD w B 71 (eA N came kV wV kT wT kM wM vA)):=hbB;have HFB:Hid (F B):=hFB;have HLB:Hid (lv.ownBlock≠some B):=hLB;have HAB:Hid (vA.ownBlock≠some B):=hAB;clear bB bM kV0 hbB hFB hLB hAB;have hlen:∃a cap,lv= .slice a n cap:=by
  rcases HL.out.2 with⟨rfl,rfl⟩|⟨g,cap,cur,rfl,_⟩
  ·exact⟨_,_,rfl⟩
  ·exact⟨_,_,rfl⟩
 obtain⟨al,capl,hlv⟩:=hlen
 go_wp2_with fail
 have hmk:(gS.el ((N:Int)+1)).length=gS.sz:=rfl;have HMKL:Hid ((gS.el ((N:Int)+1)).length=gS.sz):=hmk;clear hmk
 go_loopw [5] (fun iv wr=>∃(q:Nat) (ys:List Value),q<=n/\iv= .int .i64 q/\wr.ownsRow 0 124 15 lv n ys/\(∀j i,j < q->i < 15->ys[j*15+i]?= (gS.el ((N:Int)+1))[i]?)/\aB (fun b=>lv.ownBlock=some b) V wr) (fun iv _=>n - (intOf iv).toNat)
 case atStart=>exact⟨0,xs,Nat.zero_le _,rfl,HLV.out,fun j i h=>absurd h (by omega),aB.refl _ _⟩
 case round=>
  obtain⟨q,ys,hq,rfl,hrow,hys,hkw⟩:=hrel
  rename World=>Wo
  have HROW:Hid (Wo.ownsRow 0 124 15 lv n ys):=hrow;have HYS:Hid (∀j i,j < q->i < 15->ys[j*15+i]?= (gS.el ((N:Int)+1))[i]?):=hys;have HKW:Hid (aB (fun b=>lv.ownBlock=some b) V Wo):=hkw;have hszo:=hkw.size;have bMo:=HBM.out.kept hkw (fun e=>by have:=HLT.out _ e;omega);have HBMO:Hid (aD Wo w.heap.size 124 #[.int .i64 0,.int .i64 0,.int .i64 (-((N:Int)+1)),.int .i64 0,.string ⟨#[]⟩,.int .i64 0,.int .i64 0,.string ⟨#[]⟩,.int .i64 0,.bool false,.bool false,.int .i64 0,.int .i64 0,.int .i64 0,.int .i64 0]):=bMo;clear hrow hys hkw;by_cases hlt:q < n
  ·obtain⟨g,cap,hgf,-,-⟩:=World.ownsRow.form HROW.out (by omega)
   subst hgf;have HSET:=nB (gS.el ((N:Int)+1)) ys (q*15) Wo HROW.out (by rw[HMKL.out];show q*15+15<=n*15;omega);obtain⟨cur,hcur,hcn⟩:∃cur,aD Wo g 124 cur/\n*15<=cur.size:=by
    rcases HROW.out.2 with⟨h0,_⟩|⟨g',cap',cur,h0,hb,hcur,hnc,hcm,hcs,htk⟩
    ·cases h0
    ·cases h0
     exact⟨cur,hcur,by rw[hcs];omega⟩
   have hyl:=HROW.out.1;obtain⟨v0,hv0⟩:=dN (cs:=cur) (i:=q*15+0) (by omega);have y0:=hcur.cell hv0;have z0:=hcur.frozen (q*15+0);have m0:=bMo.cell (o:=0) rfl;obtain⟨v1,hv1⟩:=dN (cs:=cur) (i:=q*15+1) (by omega);have y1:=hcur.cell hv1;have z1:=hcur.frozen (q*15+1);have m1:=bMo.cell (o:=1) rfl;obtain⟨v2,hv2⟩:=dN (cs:=cur) (i:=q*15+2) (by omega);have y2:=hcur.cell hv2;have z2:=hcur.frozen (q*15+2);have m2:=bMo.cell (o:=2) rfl;obtain⟨v3,hv3⟩:=dN (cs:=cur) (i:=q*15+3) (by omega);have y3:=hcur.cell hv3;have z3:=hcur.frozen (q*15+3);have m3:=bMo.cell (o:=3) rfl;obtain⟨v4,hv4⟩:=dN (cs:=cur) (i:=q*15+4) (by omega);have y4:=hcur.cell hv4;have z4:=hcur.frozen (q*15+4);have m4:=bMo.cell (o:=4) rfl;obtain⟨v5,hv5⟩:=dN (cs:=cur) (i:=q*15+5) (by omega);have y5:=hcur.cell hv5;have z5:=hcur.frozen (q*15+5);have m5:=bMo.cell (o:=5) rfl;obtain⟨v6,hv6⟩:=dN (cs:=cur) (i:=q*15+6) (by omega);have y6:=hcur.cell hv6;have z6:=hcur.frozen (q*15+6);have m6:=bMo.cell (o:=6) rfl;obtain⟨v7,hv7⟩:=dN (cs:=cur) (i:=q*15+7) (by omega);have y7:=hcur.cell hv7;have z7:=hcur.frozen (q*15+7);have m7:=bMo.cell (o:=7) rfl;obtain⟨v8,hv8⟩:=dN (cs:=cur) (i:=q*15+8) (by omega);have y8:=hcur.cell hv8;have z8:=hcur.frozen (q*15+8);have m8:=bMo.cell (o:=8) rfl;obtain⟨v9,hv9⟩:=dN (cs:=cur) (i:=q*15+9) (by omega);have y9:=hcur.cell hv9;have z9:=hcur.frozen (q*15+9);have m9:=bMo.cell (o:=9) rfl;obtain⟨v10,hv10⟩:=dN (cs:=cur) (i:=q*15+10) (by omega);have y10:=hcur.cell hv10;have z10:=hcur.frozen (q*15+10);have m10:=bMo.cell (o:=10) rfl;obtain⟨v11,hv11⟩:=dN (cs:=cur) (i:=q*15+11) (by omega);have y11:=hcur.cell hv11;have z11:=hcur.frozen (q*15+11);have m11:=bMo.cell (o:=11) rfl;obtain⟨v12,hv12⟩:=dN (cs:=cur) (i:=q*15+12) (by omega);have y12:=hcur.cell hv12;have z12:=hcur.frozen (q*15+12);have m12:=bMo.cell (o:=12) rfl;obtain⟨v13,hv13⟩:=dN (cs:=cur) (i:=q*15+13) (by omega);have y13:=hcur.cell hv13;have z13:=hcur.frozen (q*15+13);have m13:=bMo.cell (o:=13) rfl;obtain⟨v14,hv14⟩:=dN (cs:=cur) (i:=q*15+14) (by omega);have y14:=hcur.cell hv14;have z14:=hcur.frozen (q*15+14);have m14:=bMo.cell (o:=14) rfl;have j1:(0:Int)<=(q:Int):=by omega
   have j2:(q:Int) < (n:Int):=by omega
   rw[Nat.add_zero]at y0 z0;clear hlv hcur bMo
   go_wp2_with fail
   go_roundw
   case rel=>
    refine⟨q+1,_,by omega,by go_num,HSET,fun j i hj hi=> ?_,(jC (X:=fun b=>(Value.slice (some ⟨g,0,none⟩) n cap).ownBlock=some b) (A:=V) (g:=g) (.inl rfl) (gS.el ((N:Int)+1)) (q*15) Wo HKW.out:aB (fun b=>(Value.slice (some ⟨g,0,none⟩) n cap).ownBlock=some b) V (dR Wo g (q*15) (gS.el ((N:Int)+1))))⟩;rcases Nat.lt_or_ge j q with h|h
    ·rw[pG _ _ _ _ (.inl (by omega))]
     exact HYS.out j i h hi
    ·obtain rfl:j=q:=by omega
     exact pJ _ _ _ _ (by rw[HMKL.out];exact hi) (by rw[HMKL.out,hyl];show j*15+15<=n*15;omega)
   case measure=>simp[intOf];omega
  ·obtain rfl:q=n:=by omega
   have hym:ys=fO gS ((N:Int)+1) q:=tZ gS _ _ (by decide) HMKL.out HROW.out.1 HYS.out;subst hym;have hLo:∀g,lv.ownBlock=some g->∃cs,aD w g 124 cs:=fun g e=>eO HL.out e
   have HLO:Hid (∀g,lv.ownBlock=some g->∃cs,aD w g 124 cs):=hLo;clear bMo hLo;subst hlv
   go_wp2_with fail
   have hFL:∀g,F g->(Value.slice al q capl).ownBlock≠some g:=fun g h e=>HLF.out g e h
   have HFL:Hid (∀g,F g->(Value.slice al q capl).ownBlock≠some g):=hFL;clear hFL
   go_loopw [1,6] (fun lw kv wr=>∃(k:Nat) (bs':List Bk),k<=4/\kv= .int .i64 k/\bs'.length=k/\wr.ownsRow 0 124 15 lw (q+k) (fO gS ((N:Int)+1) (q+k))/\(∀g,lw.ownBlock=some g->(Value.slice al q capl).ownBlock=some g\/w.heap.size < g)/\aD wr w.heap.size 124 #[.int .i64 0,.int .i64 0,.int .i64 (-((N:Int)+1)),.int .i64 0,.string ⟨#[]⟩,.int .i64 0,.int .i64 0,.string ⟨#[]⟩,.int .i64 0,.bool false,.bool false,.int .i64 0,.int .i64 0,.int .i64 0,.int .i64 0]/\gC (fun b=>F b\/(Value.slice al q capl).ownBlock=some b) (fun g n'=>(F g\/(Value.slice al q capl).ownBlock=some g)/\g≠w.heap.size/\(lw.ownBlock=some g->n'<=q+k)) wr B ((N:Int)+1) came kV wV kT wT kM wM (bs++bs')/\aB (fun b=>F b\/(Value.slice al q capl).ownBlock=some b) V wr) (fun _ kv _=>4 - (intOf kv).toNat)
   case atStart=>
    refine⟨0,[],by omega,rfl,rfl,HROW.out,fun g e=> .inl e,HBMO.out,⟨vA,HBB.out.kept HKW.out HLB.out,by rw[List.append_nil];exact aP HRV.out HKW.out (fun g e h=>HFL.out g (HFA.out g e) h) (a_ _),.inl HFB.out,fun g e=> .inl (HFA.out g e),fun x hx=> ?_⟩,HKW.out.mono (fun _ _ h=> .inr h)⟩
    ·rw[List.append_nil]at hx
     refine(HMK.out x hx).kept ((HKV.out.mono (Y:=fun b=>b=B\/(Value.slice al q capl).ownBlock=some b) (fun _ _ h=> .inl h)).trans (HKW.out.mono (fun _ _ h=> .inr h))) (fun g n t cs ht hb hf hX=> ?_) (fun g n t cs ht hb hf=>⟨.inl hf,by have:=hb.lt;omega,fun e=>absurd e (HFL.out g hf)⟩);rcases hX with rfl|h
     ·exact ht.ne.1 (jD hb HB0.out)
     ·exact HFL.out g hf h
   case round=>
    obtain⟨k,bs',hk,rfl,hbl,hrw,hlw,hbm,hbk,hkF⟩:=hrel
    rename World=>Wr
    obtain⟨a1,c1,rfl⟩:=bG hrw;obtain⟨vA',kbB,kra,kfB,kfA,kmk⟩:=hbk;have HBL':Hid (bs'.length=k):=hbl;have HRW:Hid (Wr.ownsRow 0 124 15 (Value.slice a1 (q+k) c1) (q+k) (fO gS ((N:Int)+1) (q+k))):=hrw;obtain⟨nb,hnb⟩:∃nb,(bs++bs').length=nb:=⟨_,rfl⟩;have hnb2:nb<=1700000000004:=by rw[<-hnb,f_];omega
    rw[hnb]at kra;have HNB:Hid ((bs++bs').length=nb):=hnb;have HLW:Hid (∀g,(Value.slice a1 (q+k) c1).ownBlock=some g->(Value.slice al q capl).ownBlock=some g\/w.heap.size < g):=hlw;have HKA:Hid (∀g,vA'.ownBlock=some g->F g\/(Value.slice al q capl).ownBlock=some g):=kfA;have HKM:Hid (∀x∈bs++bs',eT Wr (fun g n'=>(F g\/(Value.slice al q capl).ownBlock=some g)/\g≠w.heap.size/\((Value.slice a1 (q+k) c1).ownBlock=some g->n'<=q+k)) x):=kmk;have HKFB:Hid (F B\/(Value.slice al q capl).ownBlock=some B):=kfB;have HKF:Hid (aB (fun b=>F b\/(Value.slice al q capl).ownBlock=some b) V Wr):=hkF;have HKRA:Hid (Wr.ownsRow 0 143 4 vA' nb (eD (bs++bs'))):=kra;have HKB:Hid (aD Wr B 71 (eA ((N:Int)+1) came kV wV kT wT kM wM vA')):=kbB;have HBM2:Hid (aD Wr w.heap.size 124 #[.int .i64 0,.int .i64 0,.int .i64 (-((N:Int)+1)),.int .i64 0,.string ⟨#[]⟩,.int .i64 0,.int .i64 0,.string ⟨#[]⟩,.int .i64 0,.bool false,.bool false,.int .i64 0,.int .i64 0,.int .i64 0,.int .i64 0]):=hbm;have hNE:vA'.ownBlock≠some B:=bF kra kbB (by decide);have HNE:Hid (vA'.ownBlock≠some B):=hNE;have hszr:=hkF.size;have hBr:=kbB.lt;have d0:=kbB.cell (o:=0) rfl;have d9:=kbB.cell (o:=9) rfl;have e9:=kbB.frozen 9;clear hbl hnb hrw hlw hbm kbB kra kfB kfA kmk hkF hNE;by_cases hk4:k < 4
    ·have r1:(k:Int) < 4:=by omega
     go_upto_region 9 with fail
     go_cut [1] (fun lx wx=>lx=Value.slice a1 (q+k) c1/\∃vA2,aD wx B 71 (eA ((N:Int)+1) came kV wV kT wT kM wM vA2)/\wx.ownsRow 0 143 4 vA2 (nb+1) (eD ((bs++bs')++ [((N:Int)+1,.slice none 0 0,.slice none 0 0,(Value.slice a1 (q+k) c1))]))/\(∀g,vA2.ownBlock=some g->F g\/(Value.slice al q capl).ownBlock=some g)/\aB (fun b=>b=B\/vA'.ownBlock=some b) Wr wx)
     case first=>
      go_region_law (refine step_append_lies _ (by rfl) _ _ _ (by rfl) 0 143 i0 _ 4 80 underlying69 hi hz0 hz1 hz2 rfl (by omega) vA' nb (eD (bs++bs')) (by rfl) ((HKRA.out.alloc _).drew) ⟨Wr.heap.size,0,none⟩ 1 1 [.int .i64 ((N:Int)+1),.slice none 0 0,.slice none 0 0,(Value.slice a1 (q+k) c1)] (by rfl) (by rfl) (World.news_of_block (cs:=#[.int .i64 ((N:Int)+1),.slice none 0 0,.slice none 0 0,(Value.slice a1 (q+k) c1)]) (t:=143) (fr:=(0,0)) (heap_alloc_new Wr _)) (by simp[Value.oneCell']) (by omega) (by unfold maxLen;omega) (by omega) (by simp) (Wr.heap.size+1) (by simp) ?_;intro g cp w1 hown1 hgrow hat hlt;have hbx:aD w1 B 71 (eA ((N:Int)+1) came kV wV kT wT kM wM vA'):=(hgrow.block B (by simp;omega) (fun e=>HNE.out e.symm)).trans (HKB.out.alloc _);have c9:=hbx.cell (o:=9) rfl;have f9:=hbx.frozen 9)
      all_goals
       go_wp2_with fail
       go_meet
       case rel=>
        have hne:g≠B:=fun e=>bF hown1 hbx (by decide) (by rw[e];rfl)
        have hks:aB (·= B) w1 (w1.setCell ⟨B,9,none⟩ (.slice (some ⟨g,0,none⟩) (nb+1) cp)):=(aB.refl _ _).setCell (.inl (by rfl)) _;refine⟨rfl,.slice (some ⟨g,0,none⟩) (nb+1) cp,hbx.setAt 9 _,?_,fun g' hg'=> ?_,?_⟩
        ·rw[tE]
         exact aP hown1 hks (fun g' hg' hx=>hne (by simp[Value.ownBlock]at hg';omega)) (a_ _)
        ·simp[Value.ownBlock]at hg'
         subst hg';rcases hat with h|h
         ·exact HKA.out _ h
         ·exact .inl (HF.out _ (by omega))
        ·have k1:aB (fun b=>vA'.ownBlock=some b) (Wr.alloc (Obj.cells #[.int .i64 ((N:Int)+1),.slice none 0 0,.slice none 0 0,(Value.slice a1 (q+k) c1)] 143)) w1:=by
          have:=aB.grown hgrow (X:=fun b=>vA'.ownBlock=some b) (fun r e=>e);exact⟨this.os,this.tape,this.output,this.size,this.block⟩
         exact((aB.alloc _ _ _).trans (k1.mono (fun _ _ h=> .inr h))).trans (hks.mono (fun _ _ h=> .inl h))
     case rest=>
      obtain⟨rfl,vA2,hb2,hr2,hf2,hk2⟩:=hcut
      rename World=>wx
      have HB2:Hid (aD wx B 71 (eA ((N:Int)+1) came kV wV kT wT kM wM vA2)):=hb2;have HR2:Hid (wx.ownsRow 0 143 4 vA2 (nb+1) (eD ((bs++bs')++ [((N:Int)+1,.slice none 0 0,.slice none 0 0,(Value.slice a1 (q+k) c1))]))):=hr2;have HF2:Hid (∀g,vA2.ownBlock=some g->F g\/(Value.slice al q capl).ownBlock=some g):=hf2;have HK2:Hid (aB (fun b=>b=B\/vA'.ownBlock=some b) Wr wx):=hk2;have HT3:Hid (∀g t cs,lK t->aD Wr g t cs->¬(g=B\/vA'.ownBlock=some g)):=fun g t cs ht hg hx=>by
       rcases hx with rfl|h
       ·exact ht.ne.1 (jD hg HKB.out)
       ·obtain⟨cs2,hcs2⟩:=eO HKRA.out h
        exact ht.ne.2 (jD hg hcs2)
      have HT:Hid (∀g cs,aD Wr g 124 cs->¬(g=B\/vA'.ownBlock=some g)):=fun g cs hg=>HT3.out g _ cs (by unfold lK;decide) hg
      have hlwx:wx.ownsRow 0 124 15 (Value.slice a1 (q+k) c1) (q+k) (fO gS ((N:Int)+1) (q+k)):=aP HRW.out hk2 (fun g e=>by obtain⟨cs2,hcs2⟩:=eO HRW.out e;exact HT.out g cs2 hcs2) (a_ _);have HLWX:Hid (wx.ownsRow 0 124 15 (Value.slice a1 (q+k) c1) (q+k) (fO gS ((N:Int)+1) (q+k))):=hlwx;have bmx:aD wx w.heap.size 124 #[.int .i64 0,.int .i64 0,.int .i64 (-((N:Int)+1)),.int .i64 0,.string ⟨#[]⟩,.int .i64 0,.int .i64 0,.string ⟨#[]⟩,.int .i64 0,.bool false,.bool false,.int .i64 0,.int .i64 0,.int .i64 0,.int .i64 0]:=HBM2.out.kept hk2 (HT.out _ _ HBM2.out);have HBMX:Hid (aD wx w.heap.size 124 #[.int .i64 0,.int .i64 0,.int .i64 (-((N:Int)+1)),.int .i64 0,.string ⟨#[]⟩,.int .i64 0,.int .i64 0,.string ⟨#[]⟩,.int .i64 0,.bool false,.bool false,.int .i64 0,.int .i64 0,.int .i64 0,.int .i64 0]):=bmx;have m0:=bmx.cell (o:=0) rfl;have m1:=bmx.cell (o:=1) rfl;have m2:=bmx.cell (o:=2) rfl;have m3:=bmx.cell (o:=3) rfl;have m4:=bmx.cell (o:=4) rfl;have m5:=bmx.cell (o:=5) rfl;have m6:=bmx.cell (o:=6) rfl;have m7:=bmx.cell (o:=7) rfl;have m8:=bmx.cell (o:=8) rfl;have m9:=bmx.cell (o:=9) rfl;have m10:=bmx.cell (o:=10) rfl;have m11:=bmx.cell (o:=11) rfl;have m12:=bmx.cell (o:=12) rfl;have m13:=bmx.cell (o:=13) rfl;have m14:=bmx.cell (o:=14) rfl;have hszx:=hk2.size;have hqk:q+k<=1000004:=by omega
      clear hb2 hr2 hf2 hk2 hlwx bmx
      go_wp2_with (at_builtin;refine nL rfl _ _ _ rfl 0 124 i1 _ 15 128 underlying68 hi1 hy0 hy1 hy2 rfl (by omega) (Value.slice a1 (q+k) c1) (q+k) (fO gS ((N:Int)+1) (q+k)) rfl (HLWX.out.alloc _) ⟨wx.heap.size,0,none⟩ 1 1 [.int .i64 0,.int .i64 0,.int .i64 (-((N:Int)+1)),.int .i64 0,.string ⟨#[]⟩,.int .i64 0,.int .i64 0,.string ⟨#[]⟩,.int .i64 0,.bool false,.bool false,.int .i64 0,.int .i64 0,.int .i64 0,.int .i64 0] rfl rfl (World.news_of_block (cs:=#[.int .i64 0,.int .i64 0,.int .i64 (-((N:Int)+1)),.int .i64 0,.string ⟨#[]⟩,.int .i64 0,.int .i64 0,.string ⟨#[]⟩,.int .i64 0,.bool false,.bool false,.int .i64 0,.int .i64 0,.int .i64 0,.int .i64 0]) (t:=124) (fr:=(0,0)) (heap_alloc_new wx _)) (by simp[Value.oneCell']) (by omega) (by unfold maxLen;omega) (by omega) (Nat.zero_le _) ?_;intro g cp w1 hown1 hgrow1 hat1 hkeep1)
      go_roundw
      case rel=>
       have hka:aB (fun _=>False) wx (wx.alloc (Obj.cells #[.int .i64 0,.int .i64 0,.int .i64 (-((N:Int)+1)),.int .i64 0,.string ⟨#[]⟩,.int .i64 0,.int .i64 0,.string ⟨#[]⟩,.int .i64 0,.bool false,.bool false,.int .i64 0,.int .i64 0,.int .i64 0,.int .i64 0] 124)):=aB.alloc _ _ _;have hgk:aB (fun b=>(Value.slice a1 (q+k) c1).ownBlock=some b) (wx.alloc (Obj.cells #[.int .i64 0,.int .i64 0,.int .i64 (-((N:Int)+1)),.int .i64 0,.string ⟨#[]⟩,.int .i64 0,.int .i64 0,.string ⟨#[]⟩,.int .i64 0,.bool false,.bool false,.int .i64 0,.int .i64 0,.int .i64 0,.int .i64 0] 124)) w1:=aB.grown hgrow1 (fun r e=>e);have hsa:(wx.alloc (Obj.cells #[.int .i64 0,.int .i64 0,.int .i64 (-((N:Int)+1)),.int .i64 0,.string ⟨#[]⟩,.int .i64 0,.int .i64 0,.string ⟨#[]⟩,.int .i64 0,.bool false,.bool false,.int .i64 0,.int .i64 0,.int .i64 0,.int .i64 0] 124)).heap.size=wx.heap.size+1:=by simp
       have hLW1:∀g',(Value.slice a1 (q+k) c1).ownBlock=some g'->F g'\/(Value.slice al q capl).ownBlock=some g':=fun g' e=>by
        rcases HLW.out g' e with h|h
        ·exact .inr h
        ·exact .inl (HF.out _ (by omega))
       have hkx:aB (fun b=>(Value.slice a1 (q+k) c1).ownBlock=some b) wx w1:=(hka.mono (fun _ _ h=>h.elim)).trans hgk;have hmark:∀x:Bk,eT wx (fun g n'=>(F g\/(Value.slice al q capl).ownBlock=some g)/\g≠w.heap.size/\((Value.slice a1 (q+k) c1).ownBlock=some g->n'<=q+k)) x->eT w1 (fun g' n'=>(F g'\/(Value.slice al q capl).ownBlock=some g')/\g'≠w.heap.size/\((Value.slice (some ⟨g,0,none⟩) (q+k+1) cp).ownBlock=some g'->n'<=q+(k+1))) x:=fun x h=>by
        refine((h.kept hka (fun _ _ _ _ _ _ _ h=>h) (fun _ _ _ _ _ hb h=>⟨h,hb.lt⟩):eT (wx.alloc (Obj.cells #[.int .i64 0,.int .i64 0,.int .i64 (-((N:Int)+1)),.int .i64 0,.string ⟨#[]⟩,.int .i64 0,.int .i64 0,.string ⟨#[]⟩,.int .i64 0,.bool false,.bool false,.int .i64 0,.int .i64 0,.int .i64 0,.int .i64 0] 124)) (fun g n'=>((F g\/(Value.slice al q capl).ownBlock=some g)/\g≠w.heap.size/\((Value.slice a1 (q+k) c1).ownBlock=some g->n'<=q+k))/\g < wx.heap.size) x)).grown (S0:=gS) (n0:=q+k) hgrow1 (by simp) (fun B' t' cs' e hb=> ?_) (fun g' n' t' cs ht hb hG=>⟨hG.1.2.2,hG.1.1,hG.1.2.1,fun e=> ?_⟩)
        ·obtain⟨cs2,hcs2⟩:=eO (HLWX.out.alloc _) e
         obtain rfl:=jD hb hcs2;exact⟨rfl,hkeep1.out B' cs' e hb⟩
        ·simp[Value.ownBlock]at e
         subst e;rcases hat1 with h'|h'
         ·have:=hG.1.2.2 h'
          omega
         ·have:=hG.2
          omega
       refine⟨k+1,bs'++ [((N:Int)+1,.slice none 0 0,.slice none 0 0,(Value.slice a1 (q+k) c1))],by omega,by go_num,by simp[HBL'.out],by rw[<-Nat.add_assoc,qI];exact hown1,fun g' e=> ?_,HBMX.out.kept hkx (fun e=> ?_),⟨vA2,HB2.out.kept hkx (bF HLWX.out HB2.out (by decide)),?_,HKFB.out,HF2.out,fun x hx=> ?_⟩,?_⟩
       ·simp[Value.ownBlock]at e
        subst e;rcases hat1 with h|h
        ·exact HLW.out _ h
        ·exact .inr (by omega)
       ·rcases HLW.out _ e with h|h
        ·have:=HLT.out _ h
         omega
        ·omega
       ·rw[<-List.append_assoc,f_,HNB.out]
        refine aP HR2.out hkx (fun g' hg' hx=> ?_) (a_ _);obtain⟨cs1,h1⟩:=eO HR2.out hg';obtain⟨cs2,h2⟩:=eO HLWX.out hx;have:=h1.symm.trans h2;simp at this
       ·rw[<-List.append_assoc]at hx
        rcases List.mem_append.1 hx with hx|hx
        ·exact hmark _ ((HKM.out x hx).kept HK2.out (fun g n t cs ht hb _=>HT3.out g t cs ht hb) (fun _ _ _ _ _ _ h=>h))
        ·simp only[List.mem_singleton]at hx
         subst hx;have hnew:gH gS wx (fun g n'=>(F g\/(Value.slice al q capl).ownBlock=some g)/\g≠w.heap.size/\((Value.slice a1 (q+k) c1).ownBlock=some g->n'<=q+k)) (Value.slice a1 (q+k) c1) ((N:Int)+1):=tA HLWX.out HMKL.out (by omega) (fun g' e=>⟨hLW1 g' e,fun h=>by
          subst h;rcases HLW.out _ e with h|h
          ·have:=HLT.out _ h
           omega
          ·omega,fun _=>a_ _⟩)
         have hnil:∀S:jF,gH S wx (fun g n'=>(F g\/(Value.slice al q capl).ownBlock=some g)/\g≠w.heap.size/\((Value.slice a1 (q+k) c1).ownBlock=some g->n'<=q+k)) (.slice none 0 0) ((N:Int)+1):=fun S=>gH.nil S _ _ _ (by omega) (by omega)
         exact hmark _ (by first|exact⟨hnew,hnil _,hnil _⟩|exact⟨hnil _,hnew,hnil _⟩|exact⟨hnil _,hnil _,hnew⟩)
       ·exact(HKF.out.trans (HK2.out.mono (fun g _ h=>by
         rcases h with rfl|h
         ·exact HKFB.out
         ·exact HKA.out _ h))).trans (hkx.mono (fun g _ h=>hLW1 g h))
      case measure=>simp[intOf];omega
    ·obtain rfl:k=4:=by omega
     go_wp2_with fail
     go_end0
     have hc:((N+1:Nat):Int)=(N:Int)+1:=by omega
     refine⟨rfl,bs',HBL'.out,?_,?_⟩
     ·rw[hc]
      exact⟨vA',HKB.out,by rw[HNB.out];exact HKRA.out,HKFB.out,HKA.out,fun x hx=>(HKM.out x hx).kept (aB.refl (fun _=>False) _) (fun _ _ _ _ _ _ _ h=>h) (fun _ _ _ _ _ _ h=>h.1)⟩
     ·exact(HKV.out.mono (fun g _ h=>by subst h;exact .inl HFB.out)).trans HKF.out
end Go.Proofs.YtfanaanofjhlkaaGreatDoor
