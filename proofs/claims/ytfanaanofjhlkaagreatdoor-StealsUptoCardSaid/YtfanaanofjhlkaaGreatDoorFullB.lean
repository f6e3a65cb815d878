import Derived.Test.YtfanaanofjhlkaaGreatDoorRefWork
import Derived.Test.YtfanaanofjhlkaaGreatDoorMarkV
import Derived.Test.YtfanaanofjhlkaaGreatDoorTakeV
set_option maxHeartbeats 16000000
set_option maxRecDepth 100000
namespace Go.Proofs.YtfanaanofjhlkaaGreatDoor
open Go Go.RowKit Tryz
theorem vK(F:Nat->Prop)(B:Nat)(N:Nat)(came:Int)(kV wV kT wT kM wM lv:Value)(bs:List Bk)(n:Nat)(xs:List Value)(w:World)(hF:∀b,w.heap.size<=b->F b)(hI:gC F (fun g _=>F g) w B N came kV wV kT wT kM wM bs)
  (hl:w.ownsRow 0 62 3 lv n xs) (hlF:∀g,lv.ownBlock=some g->¬F g) (hN:N<=400000000000) (hbs:bs.length<=1700000000000) (hn:n<=1000000) :
  Calls prog 126 #[.pointer (some ⟨B,0,none⟩),lv] w fun e w'=>e= .returned (.tuple #[])/\∃bs',bs'.length=4/\gC (fun b=>F b\/lv.ownBlock=some b) (fun b _=>F b\/lv.ownBlock=some b) w' B (N+1:Nat) came kV wV kT wT kM wM (bs++bs')/\aB (fun b=>F b\/lv.ownBlock=some b) w w':=by
 obtain⟨i0,hi,hz0,hz1,hz2⟩:=info_parts uL;obtain⟨i1,hi1,hy0,hy1,hy2⟩:=info_parts jU;obtain⟨vA,hbB,hrA,hFB,hFA,hmk⟩:=hI;have HMK:Hid (∀x∈bs,eT w (fun g _=>F g) x):=hmk;have HF:Hid (∀b,w.heap.size<=b->F b):=hF;have HLF:Hid (∀g,lv.ownBlock=some g->¬F g):=hlF;have HFA:Hid (∀g,vA.ownBlock=some g->F g):=hFA;have HL:Hid (w.ownsRow 0 62 3 lv n xs):=hl;have HRA:Hid (w.ownsRow 0 143 4 vA bs.length (eD bs)):=hrA;have hBl:=hbB.lt;have b0:=hbB.cell (o:=0) rfl;have f0:=hbB.frozen 0;clear hmk hF hlF hFA hl hrA;go_enter func126,ntmps126;have wr1:IntKind.i64.wrap ((N:Int)+1)=(N:Int)+1:=IntWalk.i64_in _ (by omega);have wr2:IntKind.i64.wrap (-((N:Int)+1))=(-((N:Int)+1)):=IntWalk.i64_in _ (by omega)
 go_upto_region 2 with fail
 obtain⟨V,hV⟩:∃V,(w.setCell ⟨B,0,none⟩ (.int .i64 ((N:Int)+1))).alloc (Obj.cells #[.string ⟨#[]⟩,.int .i64 0,.int .i64 (-((N:Int)+1))] 62)=V:=⟨_,rfl⟩;have bB:aD V B 71 (eA ((N:Int)+1) came kV wV kT wT kM wM vA):=by rw[<-hV];exact(hbB.setAt 0 _).alloc _
 have bM:aD V w.heap.size 62 #[.string ⟨#[]⟩,.int .i64 0,.int .i64 (-((N:Int)+1))]:=by
  rw[<-hV];have:=aD.new (w.setCell ⟨B,0,none⟩ (.int .i64 ((N:Int)+1))) 62 #[.string ⟨#[]⟩,.int .i64 0,.int .i64 (-((N:Int)+1))];simpa using this
 have kV0:aB (·= B) w V:=by rw[<-hV];exact((aB.refl _ _).setCell (.inl (by rfl)) _).trans (aB.alloc _ _ _)
 have sV:V.heap.size=w.heap.size+1:=by rw[<-hV];simp
 rw[hV];clear hV b0 f0;have hLB:lv.ownBlock≠some B:=bF HL.out hbB (by decide);have hAB:vA.ownBlock≠some B:=bF HRA.out hbB (by decide);have HLV:Hid (V.ownsRow 0 62 3 lv n xs):=aP HL.out kV0 (fun g e h=>hLB (by rw[e,h])) (a_ _);have HRV:Hid (V.ownsRow 0 143 4 vA bs.length (eD bs)):=aP HRA.out kV0 (fun g e h=>hAB (by rw[e,h])) (a_ _);have HLT:Hid (∀g,lv.ownBlock=some g->g < w.heap.size):=fun g e=>(HL.out.lt g e).2
 have HBB:Hid (aD V B 71 (eA ((N:Int)+1) came kV wV kT wT kM wM vA)):=bB;have HBM:Hid (aD V w.heap.size 62 #[.string ⟨#[]⟩,.int .i64 0,.int .i64 (-((N:Int)+1))]):=bM;have HKV:Hid (aB (·= B) w V):=kV0;have HB0:Hid (aD w B 71 (eA N came kV wV kT wT kM wM vA)):=hbB;have HFB:Hid (F B):=hFB;have HLB:Hid (lv.ownBlock≠some B):=hLB;have HAB:Hid (vA.ownBlock≠some B):=hAB;clear bB bM kV0 hbB hFB hLB hAB;have hlen:∃a cap,lv= .slice a n cap:=by
  rcases HL.out.2 with⟨rfl,rfl⟩|⟨g,cap,cur,rfl,_⟩
  ·exact⟨_,_,rfl⟩
  ·exact⟨_,_,rfl⟩
 obtain⟨al,capl,hlv⟩:=hlen
 go_wp2_with fail
 have hmk:(gR.el ((N:Int)+1)).length=gR.sz:=rfl;have HMKL:Hid ((gR.el ((N:Int)+1)).length=gR.sz):=hmk;clear hmk
 go_loopw [5] (fun iv wr=>∃(q:Nat) (ys:List Value),q<=n/\iv= .int .i64 q/\wr.ownsRow 0 62 3 lv n ys/\(∀j i,j < q->i < 3->ys[j*3+i]?= (gR.el ((N:Int)+1))[i]?)/\aB (fun b=>lv.ownBlock=some b) V wr) (fun iv _=>n - (intOf iv).toNat)
 case atStart=>exact⟨0,xs,Nat.zero_le _,rfl,HLV.out,fun j i h=>absurd h (by omega),aB.refl _ _⟩
 case round=>
  obtain⟨q,ys,hq,rfl,hrow,hys,hkw⟩:=hrel
  rename World=>Wo
  have HROW:Hid (Wo.ownsRow 0 62 3 lv n ys):=hrow;have HYS:Hid (∀j i,j < q->i < 3->ys[j*3+i]?= (gR.el ((N:Int)+1))[i]?):=hys;have HKW:Hid (aB (fun b=>lv.ownBlock=some b) V Wo):=hkw;have hszo:=hkw.size;have bMo:=HBM.out.kept hkw (fun e=>by have:=HLT.out _ e;omega);have HBMO:Hid (aD Wo w.heap.size 62 #[.string ⟨#[]⟩,.int .i64 0,.int .i64 (-((N:Int)+1))]):=bMo;clear hrow hys hkw;by_cases hlt:q < n
  ·obtain⟨g,cap,hgf,-,-⟩:=World.ownsRow.form HROW.out (by omega)
   subst hgf;have HSET:=nB (gR.el ((N:Int)+1)) ys (q*3) Wo HROW.out (by rw[HMKL.out];show q*3+3<=n*3;omega);obtain⟨cur,hcur,hcn⟩:∃cur,aD Wo g 62 cur/\n*3<=cur.size:=by
    rcases HROW.out.2 with⟨h0,_⟩|⟨g',cap',cur,h0,hb,hcur,hnc,hcm,hcs,htk⟩
    ·cases h0
    ·cases h0
     exact⟨cur,hcur,by rw[hcs];omega⟩
   have hyl:=HROW.out.1;obtain⟨v0,hv0⟩:=dN (cs:=cur) (i:=q*3+0) (by omega);have y0:=hcur.cell hv0;have z0:=hcur.frozen (q*3+0);have m0:=bMo.cell (o:=0) rfl;obtain⟨v1,hv1⟩:=dN (cs:=cur) (i:=q*3+1) (by omega);have y1:=hcur.cell hv1;have z1:=hcur.frozen (q*3+1);have m1:=bMo.cell (o:=1) rfl;obtain⟨v2,hv2⟩:=dN (cs:=cur) (i:=q*3+2) (by omega);have y2:=hcur.cell hv2;have z2:=hcur.frozen (q*3+2);have m2:=bMo.cell (o:=2) rfl;have j1:(0:Int)<=(q:Int):=by omega
   have j2:(q:Int) < (n:Int):=by omega
   rw[Nat.add_zero]at y0 z0;clear hlv hcur bMo
   go_wp2_with fail
   go_roundw
   case rel=>
    refine⟨q+1,_,by omega,by go_num,HSET,fun j i hj hi=> ?_,(jC (X:=fun b=>(Value.slice (some ⟨g,0,none⟩) n cap).ownBlock=some b) (A:=V) (g:=g) (.inl rfl) (gR.el ((N:Int)+1)) (q*3) Wo HKW.out:aB (fun b=>(Value.slice (some ⟨g,0,none⟩) n cap).ownBlock=some b) V (dR Wo g (q*3) (gR.el ((N:Int)+1))))⟩;rcases Nat.lt_or_ge j q with h|h
    ·rw[pG _ _ _ _ (.inl (by omega))]
     exact HYS.out j i h hi
    ·obtain rfl:j=q:=by omega
     exact pJ _ _ _ _ (by rw[HMKL.out];exact hi) (by rw[HMKL.out,hyl];show j*3+3<=n*3;omega)
   case measure=>simp[intOf];omega
  ·obtain rfl:q=n:=by omega
   have hym:ys=fO gR ((N:Int)+1) q:=tZ gR _ _ (by decide) HMKL.out HROW.out.1 HYS.out;subst hym;have hLo:∀g,lv.ownBlock=some g->∃cs,aD w g 62 cs:=fun g e=>eO HL.out e
   have HLO:Hid (∀g,lv.ownBlock=some g->∃cs,aD w g 62 cs):=hLo;clear bMo hLo;subst hlv
   go_wp2_with fail
   have hFL:∀g,F g->(Value.slice al q capl).ownBlock≠some g:=fun g h e=>HLF.out g e h
   have HFL:Hid (∀g,F g->(Value.slice al q capl).ownBlock≠some g):=hFL;clear hFL
   go_loopw [1,6] (fun lw kv wr=>∃(k:Nat) (bs':List Bk),k<=4/\kv= .int .i64 k/\bs'.length=k/\wr.ownsRow 0 62 3 lw (q+k) (fO gR ((N:Int)+1) (q+k))/\(∀g,lw.ownBlock=some g->(Value.slice al q capl).ownBlock=some g\/w.heap.size < g)/\aD wr w.heap.size 62 #[.string ⟨#[]⟩,.int .i64 0,.int .i64 (-((N:Int)+1))]/\gC (fun b=>F b\/(Value.slice al q capl).ownBlock=some b) (fun g n'=>(F g\/(Value.slice al q capl).ownBlock=some g)/\g≠w.heap.size/\(lw.ownBlock=some g->n'<=q+k)) wr B ((N:Int)+1) came kV wV kT wT kM wM (bs++bs')/\aB (fun b=>F b\/(Value.slice al q capl).ownBlock=some b) V wr) (fun _ kv _=>4 - (intOf kv).toNat)
   case atStart=>
    refine⟨0,[],by omega,rfl,rfl,HROW.out,fun g e=> .inl e,HBMO.out,⟨vA,HBB.out.kept HKW.out HLB.out,by rw[List.append_nil];exact aP HRV.out HKW.out (fun g e h=>HFL.out g (HFA.out g e) h) (a_ _),.inl HFB.out,fun g e=> .inl (HFA.out g e),fun x hx=> ?_⟩,HKW.out.mono (fun _ _ h=> .inr h)⟩
    ·rw[List.append_nil]at hx
     refine(HMK.out x hx).kept ((HKV.out.mono (Y:=fun b=>b=B\/(Value.slice al q capl).ownBlock=some b) (fun _ _ h=> .inl h)).trans (HKW.out.mono (fun _ _ h=> .inr h))) (fun g n t cs ht hb hf hX=> ?_) (fun g n t cs ht hb hf=>⟨.inl hf,by have:=hb.lt;omega,fun e=>absurd e (HFL.out g hf)⟩);rcases hX with rfl|h
     ·exact ht.ne.1 (jD hb HB0.out)
     ·exact HFL.out g hf h
   case round=>
    obtain⟨k,bs',hk,rfl,hbl,hrw,hlw,hbm,hbk,hkF⟩:=hrel
    rename World=>Wr
    obtain⟨a1,c1,rfl⟩:=bG hrw;obtain⟨vA',kbB,kra,kfB,kfA,kmk⟩:=hbk;have HBL':Hid (bs'.length=k):=hbl;have HRW:Hid (Wr.ownsRow 0 62 3 (Value.slice a1 (q+k) c1) (q+k) (fO gR ((N:Int)+1) (q+k))):=hrw;obtain⟨nb,hnb⟩:∃nb,(bs++bs').length=nb:=⟨_,rfl⟩;have hnb2:nb<=1700000000004:=by rw[<-hnb,f_];omega
    rw[hnb]at kra;have HNB:Hid ((bs++bs').length=nb):=hnb;have HLW:Hid (∀g,(Value.slice a1 (q+k) c1).ownBlock=some g->(Value.slice al q capl).ownBlock=some g\/w.heap.size < g):=hlw;have HKA:Hid (∀g,vA'.ownBlock=some g->F g\/(Value.slice al q capl).ownBlock=some g):=kfA;have HKM:Hid (∀x∈bs++bs',eT Wr (fun g n'=>(F g\/(Value.slice al q capl).ownBlock=some g)/\g≠w.heap.size/\((Value.slice a1 (q+k) c1).ownBlock=some g->n'<=q+k)) x):=kmk;have HKFB:Hid (F B\/(Value.slice al q capl).ownBlock=some B):=kfB;have HKF:Hid (aB (fun b=>F b\/(Value.slice al q capl).ownBlock=some b) V Wr):=hkF;have HKRA:Hid (Wr.ownsRow 0 143 4 vA' nb (eD (bs++bs'))):=kra;have HKB:Hid (aD Wr B 71 (eA ((N:Int)+1) came kV wV kT wT kM wM vA')):=kbB;have HBM2:Hid (aD Wr w.heap.size 62 #[.string ⟨#[]⟩,.int .i64 0,.int .i64 (-((N:Int)+1))]):=hbm;have hNE:vA'.ownBlock≠some B:=bF kra kbB (by decide);have HNE:Hid (vA'.ownBlock≠some B):=hNE;have hszr:=hkF.size;have hBr:=kbB.lt;have d0:=kbB.cell (o:=0) rfl;have d9:=kbB.cell (o:=9) rfl;have e9:=kbB.frozen 9;clear hbl hnb hrw hlw hbm kbB kra kfB kfA kmk hkF hNE;by_cases hk4:k < 4
    ·have r1:(k:Int) < 4:=by omega
     go_upto_region 9 with fail
     go_cut [1] (fun lx wx=>lx=Value.slice a1 (q+k) c1/\∃vA2,aD wx B 71 (eA ((N:Int)+1) came kV wV kT wT kM wM vA2)/\wx.ownsRow 0 143 4 vA2 (nb+1) (eD ((bs++bs')++ [((N:Int)+1,.slice none 0 0,(Value.slice a1 (q+k) c1),.slice none 0 0)]))/\(∀g,vA2.ownBlock=some g->F g\/(Value.slice al q capl).ownBlock=some g)/\aB (fun b=>b=B\/vA'.ownBlock=some b) Wr wx)
     case first=>
      go_region_law (refine step_append_lies _ (by rfl) _ _ _ (by rfl) 0 143 i0 _ 4 80 underlying69 hi hz0 hz1 hz2 rfl (by omega) vA' nb (eD (bs++bs')) (by rfl) ((HKRA.out.alloc _).drew) ⟨Wr.heap.size,0,none⟩ 1 1 [.int .i64 ((N:Int)+1),.slice none 0 0,(Value.slice a1 (q+k) c1),.slice none 0 0] (by rfl) (by rfl) (World.news_of_block (cs:=#[.int .i64 ((N:Int)+1),.slice none 0 0,(Value.slice a1 (q+k) c1),.slice none 0 0]) (t:=143) (fr:=(0,0)) (heap_alloc_new Wr _)) (by simp[Value.oneCell']) (by omega) (by unfold maxLen;omega) (by omega) (by simp) (Wr.heap.size+1) (by simp) ?_;intro g cp w1 hown1 hgrow hat hlt;have hbx:aD w1 B 71 (eA ((N:Int)+1) came kV wV kT wT kM wM vA'):=(hgrow.block B (by simp;omega) (fun e=>HNE.out e.symm)).trans (HKB.out.alloc _);have c9:=hbx.cell (o:=9) rfl;have f9:=hbx.frozen 9)
      all_goals
       go_wp2_with fail
       go_meet
       case rel=>
        have hne:g≠B:=fun e=>bF hown1 hbx (by decide) (by rw[e];rfl)
        have hks:aB (·= B) w1 (w1.setCell ⟨B,9,none⟩ (.slice (some ⟨g,0,none⟩) (nb+1) cp)):=(aB.refl _ _).setCell (.inl (by rfl)) _;refine⟨rfl,.slice (some ⟨g,0,none⟩) (nb+1) cp,hbx.setAt 9 _,?_,fun g' hg'=> ?_,?_⟩
        ·rw[tE]
         exact aP hown1 hks (fun g' hg' hx=>hne (by simp[Value.ownBlock]at hg';omega)) (a_ _)
        ·simp[Value.ownBlock]at hg'
         subst hg';rcases hat with h|h
         ·exact HKA.out _ h
         ·exact .inl (HF.out _ (by omega))
        ·have k1:aB (fun b=>vA'.ownBlock=some b) (Wr.alloc (Obj.cells #[.int .i64 ((N:Int)+1),.slice none 0 0,(Value.slice a1 (q+k) c1),.slice none 0 0] 143)) w1:=by
          have:=aB.grown hgrow (X:=fun b=>vA'.ownBlock=some b) (fun r e=>e);exact⟨this.os,this.tape,this.output,this.size,this.block⟩
         exact((aB.alloc _ _ _).trans (k1.mono (fun _ _ h=> .inr h))).trans (hks.mono (fun _ _ h=> .inl h))
     case rest=>
      obtain⟨rfl,vA2,hb2,hr2,hf2,hk2⟩:=hcut
      rename World=>wx
      have HB2:Hid (aD wx B 71 (eA ((N:Int)+1) came kV wV kT wT kM wM vA2)):=hb2;have HR2:Hid (wx.ownsRow 0 143 4 vA2 (nb+1) (eD ((bs++bs')++ [((N:Int)+1,.slice none 0 0,(Value.slice a1 (q+k) c1),.slice none 0 0)]))):=hr2;have HF2:Hid (∀g,vA2.ownBlock=some g->F g\/(Value.slice al q capl).ownBlock=some g):=hf2;have HK2:Hid (aB (fun b=>b=B\/vA'.ownBlock=some b) Wr wx):=hk2;have HT3:Hid (∀g t cs,lK t->aD Wr g t cs->¬(g=B\/vA'.ownBlock=some g)):=fun g t cs ht hg hx=>by
       rcases hx with rfl|h
       ·exact ht.ne.1 (jD hg HKB.out)
       ·obtain⟨cs2,hcs2⟩:=eO HKRA.out h
        exact ht.ne.2 (jD hg hcs2)
      have HT:Hid (∀g cs,aD Wr g 62 cs->¬(g=B\/vA'.ownBlock=some g)):=fun g cs hg=>HT3.out g _ cs (by unfold lK;decide) hg
      have hlwx:wx.ownsRow 0 62 3 (Value.slice a1 (q+k) c1) (q+k) (fO gR ((N:Int)+1) (q+k)):=aP HRW.out hk2 (fun g e=>by obtain⟨cs2,hcs2⟩:=eO HRW.out e;exact HT.out g cs2 hcs2) (a_ _);have HLWX:Hid (wx.ownsRow 0 62 3 (Value.slice a1 (q+k) c1) (q+k) (fO gR ((N:Int)+1) (q+k))):=hlwx;have bmx:aD wx w.heap.size 62 #[.string ⟨#[]⟩,.int .i64 0,.int .i64 (-((N:Int)+1))]:=HBM2.out.kept hk2 (HT.out _ _ HBM2.out);have HBMX:Hid (aD wx w.heap.size 62 #[.string ⟨#[]⟩,.int .i64 0,.int .i64 (-((N:Int)+1))]):=bmx;have m0:=bmx.cell (o:=0) rfl;have m1:=bmx.cell (o:=1) rfl;have m2:=bmx.cell (o:=2) rfl;have hszx:=hk2.size;have hqk:q+k<=1000004:=by omega
      clear hb2 hr2 hf2 hk2 hlwx bmx
      go_wp2_with (at_builtin;refine nL rfl _ _ _ rfl 0 62 i1 _ 3 32 underlying58 hi1 hy0 hy1 hy2 rfl (by omega) (Value.slice a1 (q+k) c1) (q+k) (fO gR ((N:Int)+1) (q+k)) rfl (HLWX.out.alloc _) ⟨wx.heap.size,0,none⟩ 1 1 [.string ⟨#[]⟩,.int .i64 0,.int .i64 (-((N:Int)+1))] rfl rfl (World.news_of_block (cs:=#[.string ⟨#[]⟩,.int .i64 0,.int .i64 (-((N:Int)+1))]) (t:=62) (fr:=(0,0)) (heap_alloc_new wx _)) (by simp[Value.oneCell']) (by omega) (by unfold maxLen;omega) (by omega) (Nat.zero_le _) ?_;intro g cp w1 hown1 hgrow1 hat1 hkeep1)
      go_roundw
      case rel=>
       have hka:aB (fun _=>False) wx (wx.alloc (Obj.cells #[.string ⟨#[]⟩,.int .i64 0,.int .i64 (-((N:Int)+1))] 62)):=aB.alloc _ _ _;have hgk:aB (fun b=>(Value.slice a1 (q+k) c1).ownBlock=some b) (wx.alloc (Obj.cells #[.string ⟨#[]⟩,.int .i64 0,.int .i64 (-((N:Int)+1))] 62)) w1:=aB.grown hgrow1 (fun r e=>e);have hsa:(wx.alloc (Obj.cells #[.string ⟨#[]⟩,.int .i64 0,.int .i64 (-((N:Int)+1))] 62)).heap.size=wx.heap.size+1:=by simp
       have hLW1:∀g',(Value.slice a1 (q+k) c1).ownBlock=some g'->F g'\/(Value.slice al q capl).ownBlock=some g':=fun g' e=>by
        rcases HLW.out g' e with h|h
        ·exact .inr h
        ·exact .inl (HF.out _ (by omega))
       have hkx:aB (fun b=>(Value.slice a1 (q+k) c1).ownBlock=some b) wx w1:=(hka.mono (fun _ _ h=>h.elim)).trans hgk;have hmark:∀x:Bk,eT wx (fun g n'=>(F g\/(Value.slice al q capl).ownBlock=some g)/\g≠w.heap.size/\((Value.slice a1 (q+k) c1).ownBlock=some g->n'<=q+k)) x->eT w1 (fun g' n'=>(F g'\/(Value.slice al q capl).ownBlock=some g')/\g'≠w.heap.size/\((Value.slice (some ⟨g,0,none⟩) (q+k+1) cp).ownBlock=some g'->n'<=q+(k+1))) x:=fun x h=>by
        refine((h.kept hka (fun _ _ _ _ _ _ _ h=>h) (fun _ _ _ _ _ hb h=>⟨h,hb.lt⟩):eT (wx.alloc (Obj.cells #[.string ⟨#[]⟩,.int .i64 0,.int .i64 (-((N:Int)+1))] 62)) (fun g n'=>((F g\/(Value.slice al q capl).ownBlock=some g)/\g≠w.heap.size/\((Value.slice a1 (q+k) c1).ownBlock=some g->n'<=q+k))/\g < wx.heap.size) x)).grown (S0:=gR) (n0:=q+k) hgrow1 (by simp) (fun B' t' cs' e hb=> ?_) (fun g' n' t' cs ht hb hG=>⟨hG.1.2.2,hG.1.1,hG.1.2.1,fun e=> ?_⟩)
        ·obtain⟨cs2,hcs2⟩:=eO (HLWX.out.alloc _) e
         obtain rfl:=jD hb hcs2;exact⟨rfl,hkeep1.out B' cs' e hb⟩
        ·simp[Value.ownBlock]at e
         subst e;rcases hat1 with h'|h'
         ·have:=hG.1.2.2 h'
          omega
         ·have:=hG.2
          omega
       refine⟨k+1,bs'++ [((N:Int)+1,.slice none 0 0,(Value.slice a1 (q+k) c1),.slice none 0 0)],by omega,by go_num,by simp[HBL'.out],by rw[<-Nat.add_assoc,qI];exact hown1,fun g' e=> ?_,HBMX.out.kept hkx (fun e=> ?_),⟨vA2,HB2.out.kept hkx (bF HLWX.out HB2.out (by decide)),?_,HKFB.out,HF2.out,fun x hx=> ?_⟩,?_⟩
       ·simp[Value.ownBlock]at e
        subst e;rcases hat1 with h|h
        ·exact HLW.out _ h
        ·exact .inr (by omega)
       ·rcases HLW.out _ e with h|h
        ·have:=HLT.out _ h
         omega
        ·omega
       ·rw[<-List.append_assoc,f_,HNB.out]
        refine aP HR2.out hkx (fun g' hg' hx=> ?_) (a_ _);obtain⟨cs1,h1⟩:=eO HR2.out hg';obtain⟨cs2,h2⟩:=eO HLWX.out hx;have:=h1.symm.trans h2;simp at this
       ·rw[<-List.append_assoc]at hx
        rcases List.mem_append.1 hx with hx|hx
        ·exact hmark _ ((HKM.out x hx).kept HK2.out (fun g n t cs ht hb _=>HT3.out g t cs ht hb) (fun _ _ _ _ _ _ h=>h))
        ·simp only[List.mem_singleton]at hx
         subst hx;have hnew:gH gR wx (fun g n'=>(F g\/(Value.slice al q capl).ownBlock=some g)/\g≠w.heap.size/\((Value.slice a1 (q+k) c1).ownBlock=some g->n'<=q+k)) (Value.slice a1 (q+k) c1) ((N:Int)+1):=tA HLWX.out HMKL.out (by omega) (fun g' e=>⟨hLW1 g' e,fun h=>by
          subst h;rcases HLW.out _ e with h|h
          ·have:=HLT.out _ h
           omega
          ·omega,fun _=>a_ _⟩)
         have hnil:∀S:jF,gH S wx (fun g n'=>(F g\/(Value.slice al q capl).ownBlock=some g)/\g≠w.heap.size/\((Value.slice a1 (q+k) c1).ownBlock=some g->n'<=q+k)) (.slice none 0 0) ((N:Int)+1):=fun S=>gH.nil S _ _ _ (by omega) (by omega)
         exact hmark _ (by first|exact⟨hnew,hnil _,hnil _⟩|exact⟨hnil _,hnew,hnil _⟩|exact⟨hnil _,hnil _,hnew⟩)
       ·exact(HKF.out.trans (HK2.out.mono (fun g _ h=>by
         rcases h with rfl|h
         ·exact HKFB.out
         ·exact HKA.out _ h))).trans (hkx.mono (fun g _ h=>hLW1 g h))
      case measure=>simp[intOf];omega
    ·obtain rfl:k=4:=by omega
     go_wp2_with fail
     go_end0
     have hc:((N+1:Nat):Int)=(N:Int)+1:=by omega
     refine⟨rfl,bs',HBL'.out,?_,?_⟩
     ·rw[hc]
      exact⟨vA',HKB.out,by rw[HNB.out];exact HKRA.out,HKFB.out,HKA.out,fun x hx=>(HKM.out x hx).kept (aB.refl (fun _=>False) _) (fun _ _ _ _ _ _ _ h=>h) (fun _ _ _ _ _ _ h=>h.1)⟩
     ·exact(HKV.out.mono (fun g _ h=>by subst h;exact .inl HFB.out)).trans HKF.out
theorem zR:prog.stoodInHeld 62=false:=by kernel_rfl
theorem zN:prog.eqGuardType prog.depth 62=false:=by kernel_rfl
theorem qL(va vb:Value)(l:List aL)(w:World)(ha:eV 3 aJ w va l)(hb:eV 3 aJ w vb l)(hl:l.length<=9223372036854775806) :
  Calls prog 65 #[va,vb] w fun e w'=>e= .returned (.bool true)/\Below w.heap.size w w':=by
 obtain⟨a,cap,rfl,hca⟩:=ha;obtain⟨b,cap',rfl,hcb⟩:=hb;have hs:=zR;have hg:=zN;go_enter func65,ntmps65
 go_wp2_with fail
 go_loopw [5] (fun i wr=>∃k:Nat,k<=l.length/\i= .int .i64 k/\Below w.heap.size w wr) (fun i _=>l.length - (intOf i).toNat)
 case atStart=>exact⟨0,Nat.zero_le _,rfl,e_ _ _⟩
 case round=>
  obtain⟨k,hk,rfl,hbw⟩:=hrel;by_cases hlt:k < l.length
  ·obtain⟨x,hx⟩:∃x,l[k]?= some x:=⟨_,b_ hlt⟩
   obtain⟨g,o,rfl,hgl,hc⟩:=hca k x hx;obtain⟨g',o',rfl,hgl',hd⟩:=hcb k x hx;have c0:=(hbw.cell (p:=⟨g,o+k*3+0,none⟩) hgl).trans (hc 0 _ rfl);have d0:=(hbw.cell (p:=⟨g',o'+k*3+0,none⟩) hgl').trans (hd 0 _ rfl);have c1:=(hbw.cell (p:=⟨g,o+k*3+1,none⟩) hgl).trans (hc 1 _ rfl);have d1:=(hbw.cell (p:=⟨g',o'+k*3+1,none⟩) hgl').trans (hd 1 _ rfl);have c2:=(hbw.cell (p:=⟨g,o+k*3+2,none⟩) hgl).trans (hc 2 _ rfl);have d2:=(hbw.cell (p:=⟨g',o'+k*3+2,none⟩) hgl').trans (hd 2 _ rfl);rw[Nat.add_zero]at c0 d0;have i1:(0:Int)<=(k:Int):=by omega
   have i2:(k:Int) < (l.length:Int):=by omega
   clear hca hcb hc hd
   go_wp2_with fail
   go_quiet (fail)
   go_wp2_with fail
   go_roundw
   case rel=>exact⟨k+1,by omega,by go_num,below_drewN hbw _⟩
   case measure=>simp[intOf];omega
  ·go_wp2_with fail
   go_ret;exact⟨rfl,hbw⟩
theorem aFx(F:Nat->Prop)(B N came:Nat)(lv:Value)(l:List aL)(w:World)(hI:eU F w B N came)
  (hl:w.ownsRow 0 62 3 lv l.length (l.flatMap aJ)) (hlF:∀g,lv.ownBlock=some g->¬F g) (hn:l.length<=1000000) (hN:N<=300000000000) (hcm:came<=300000000000) :
  Calls prog 66 #[.pointer (some ⟨B,0,none⟩),lv] w fun e w'=>e= .returned (.tuple #[])/\∃N',N'<=N+2/\eU (fun b=>F b\/w.heap.size<=b\/lv.ownBlock=some b) w' B N' (came+1)/\aB (fun b=>F b\/lv.ownBlock=some b) w w':=by
 obtain⟨i1,hi1,hy0,hy1,hy2⟩:=info_parts jU;obtain⟨lab,kV,wV,kT,wT,kM,wM,lV,lT,lM,bs,hlab,hbs,hX,hKV,hKT,hKM⟩:=hI;have HLAB:Hid (∀b,lab b≠0->F b):=hlab;have HI:Hid (gC (fun b=>lab b=1) (fun b _=>lab b=1) w B N came kV wV kT wT kM wM bs):=hX;have HOV:Hid (fW 92 2 dL lab 2 3 w kV wV lV):=hKV;have HOM:Hid (fW 124 15 aK lab 6 7 w kM wM lM):=hKM;have HK:Hid (fW 62 3 aJ lab 4 5 w kT wT lT):=hKT;obtain⟨hkr,hkl,hwr,hwl,hn0⟩:=hKT;have HKR:Hid (w.ownsRow 0 62 3 kT lT.length (lT.flatMap aJ)):=hkr;have HKL:Hid (∀g,kT.ownBlock=some g->lab g=4):=hkl;have HW:Hid (eV 3 aJ w wT lT):=fR (sz:=3) (enc:=aJ) (fun _=>rfl) hwr rfl;have HL:Hid (w.ownsRow 0 62 3 lv l.length (l.flatMap aJ)):=hl;have HLF:Hid (∀g,lv.ownBlock=some g->lab g=0):=fun g e=>by
  rcases Nat.eq_zero_or_pos (lab g)with h|h
  ·exact h
  ·exact absurd (hlab g (by omega)) (hlF g e)
 have HLF0:Hid (∀g,lv.ownBlock=some g->¬F g):=hlF;have HBS:Hid (bs.length=4*N):=hbs;have hBl:B < w.heap.size:=by obtain⟨_,hb,_⟩:=hX;exact hb.lt
 have hFB0:lab B=1:=by obtain⟨_,_,_,hb,_⟩:=hX;exact hb
 obtain⟨al,cl,rfl⟩:=bG hl;clear hlab hX hl hlF hkr hkl hwr hwl hbs;clear hKV;clear hKM;go_enter func66,ntmps66
 go_upto_region 2 with(at_builtin;refine oB rfl _ _ _ rfl 62 i1 _ 3 32 underlying58 hi1 hy0 hy1 hy2 rfl (by omega) rfl 0 (.slice al l.length cl) l.length (l.flatMap aJ) rfl HL.out (iZ lA _) (by unfold maxLen;omega) (by omega) ?_;intro wv w1 hrow1 hk1)
 obtain⟨aw,cw,rfl⟩:=bG hrow1;have HI1:Hid (gC (fun g=>lab g=1/\g < w.heap.size) (fun g _=>lab g=1/\g < w.heap.size) w1 B N came kV wV kT wT kM wM bs):=HI.out.kept hk1 (fun _ _ _ h=>h) (fun _ _ _ _ h=>h) (fun _ h1 h=>⟨h,h1⟩) (fun _ _ h1 h=>⟨h,h1⟩);have HROW1:Hid (w1.ownsRow w.heap.size 62 3 (.slice aw l.length cw) l.length (l.flatMap aJ)):=hrow1;have HK1:Hid (aB (fun _=>False) w w1):=hk1;have HKR1:Hid (w1.ownsRow 0 62 3 kT lT.length (lT.flatMap aJ)):=aP HKR.out hk1 (fun _ _ h=>h) (a_ _);have HW1:Hid (eV 3 aJ w1 wT lT):=HW.out.below (hk1.below (a_ _) (fun _ h=>h.elim)) (a_ _);have hsz1:=hk1.size;obtain⟨vA1,hb1,-⟩:=HI1.out;have b3:=hb1.cell (o:=5) rfl;have b4:=hb1.cell (o:=6) rfl;have HS:Hid (∀W,Below w1.heap.size w1 W->Calls prog 65 #[kT,wT] W fun e w'=>∃v,e= .returned v/\v= .bool true/\Below w1.heap.size w1 w'):=fun W hW=>
  (qL _ _ lT W ((fR (sz:=3) (enc:=aJ) (fun _=>rfl) HKR1.out rfl).below hW (a_ _)) (HW1.out.below hW (a_ _)) (by omega)).mono fun e w' h=>⟨_,h.1,rfl,hW.trans (h.2.mono hW.size)⟩
 clear hrow1 hk1 hb1
 go_cut [5] (fun s wx=>s= .bool true/\Below w1.heap.size w1 wx)
 case first=>
  go_region_law (refine dY (by rfl) 65 _ _ _ (by rfl) kT wT (by rfl) (by rfl) (enters_of func65 (by kernel_rfl) rfl) (HS.out _ (by first|exact e_ _ _|exact(e_ _ _).drew)) ?_;rintro v9 w9 ⟨rfl,hb9⟩)
  all_goals
   go_wp2_with fail
   go_meet
   case rel=>exact⟨rfl,by assumption⟩
 case rest=>
  obtain⟨rfl,hb2⟩:=hcut
  rename World=>w2
  have hsz2:=hb2.size;have k2:aB (fun b=>w1.heap.size<=b) w1 w2:=aB.of_below hb2 (fun _ _ h=>h);have HI2:Hid (gC (fun g=>(lab g=1/\g < w.heap.size)\/w2.heap.size<=g) (fun g _=>(lab g=1/\g < w.heap.size)\/w2.heap.size<=g) w2 B (N:Nat) came kV wV kT wT kM wM bs):=HI1.out.kept k2 (fun _ _ h1 h=>by omega) (fun _ _ _ h1 h=>by omega) (fun _ _ h=> .inl h) (fun _ _ _ h=> .inl h);have HROW2:Hid (w2.ownsRow w.heap.size 62 3 (.slice aw l.length cw) l.length (l.flatMap aJ)):=aP HROW1.out k2 (fun g e h=>by have:=(HROW1.out.lt g e).2;omega) (a_ _);have HKR2:Hid (w2.ownsRow 0 62 3 kT lT.length (lT.flatMap aJ)):=aP HKR1.out k2 (fun g e h=>by have:=(HKR.out.lt g e).2;omega) (a_ _);have HL2:Hid (w2.ownsRow 0 62 3 (.slice al l.length cl) l.length (l.flatMap aJ)):=aP (aP HL.out HK1.out (fun _ _ h=>h) (a_ _)) k2 (fun g e h=>by have:=(HL.out.lt g e).2;omega) (a_ _);have HK2:Hid (aB (fun b=>w1.heap.size<=b) w1 w2):=k2;obtain⟨vA2,hbx2,-⟩:=HI2.out;clear b3 b4;have b3:=hbx2.cell (o:=5) rfl;clear hbx2 k2
  go_upto_region 4 with(go_at_call 126;refine(vK (fun g=>(lab g=1/\g < w.heap.size)\/w2.heap.size<=g) B N came kV wV kT wT kM wM kT bs lT.length (lT.flatMap aJ) w2 (fun b h=> .inr h) HI2.out HKR2.out (fun g e h=>by have h1:=HKR.out.lt g e;have h2:=HKL.out g e;omega) (by omega) (by rw[HBS.out];omega) (by omega)).mono ?_;rintro e w3 ⟨rfl,bs3,hlen3,hI3,hk3⟩)
  have HK3:Hid (aB (fun g=>((lab g=1/\g < w.heap.size)\/w2.heap.size<=g)\/kT.ownBlock=some g) w2 w3):=hk3;have hsz3:=hk3.size;have HLEN3:Hid (bs3.length=4):=hlen3;have HROW3:Hid (w3.ownsRow w.heap.size 62 3 (.slice aw l.length cw) l.length (l.flatMap aJ)):=aP HROW2.out HK3.out (fun g e h=>by have h1:=HROW1.out.lt g e;rcases h with(⟨_,h⟩|h)|h;omega;omega;have:=HKR.out.lt g h;omega) (a_ _);have HL3:Hid (w3.ownsRow 0 62 3 (.slice al l.length cl) l.length (l.flatMap aJ)):=aP HL2.out HK3.out (fun g e h=>by have h1:=HL.out.lt g e;have h2:=HLF.out g e;rcases h with(⟨h,_⟩|h)|h;omega;omega;have h3:=HKL.out g h;omega) (a_ _);obtain⟨vA3,hb3,hr3,hFB3,hFA3,hm3⟩:=hI3;have HB3:Hid (aD w3 B 71 (eA (N+1:Nat) came kV wV kT wT kM wM vA3)):=hb3;have HR3:Hid (w3.ownsRow 0 143 4 vA3 (bs++bs3).length (eD (bs++bs3))):=hr3;have HFA3:Hid (∀g,vA3.ownBlock=some g->((lab g=1/\g < w.heap.size)\/w2.heap.size<=g)\/kT.ownBlock=some g):=hFA3;have HM3:Hid (∀x∈bs++bs3,eT w3 (fun g _=>((lab g=1/\g < w.heap.size)\/w2.heap.size<=g)\/kT.ownBlock=some g) x):=hm3;have HFB3:Hid ((fun g=>((lab g=1/\g < w.heap.size)\/w2.heap.size<=g)\/kT.ownBlock=some g) B):=hFB3;clear hb3 hr3 hFB3 hFA3 hm3 hk3 hlen3 b3
  go_upto_region 5 with(go_at_call 65;refine(qL _ _ l w3 (fR (sz:=3) (enc:=aJ) (fun _=>rfl) HL3.out rfl) (fR (sz:=3) (enc:=aJ) (fun _=>rfl) HROW3.out rfl) (by omega)).mono ?_;rintro e w4 ⟨rfl,hb4⟩)
  have hsz4:=hb4.size;have k4:aB (fun b=>w3.heap.size<=b) w3 w4:=aB.of_below hb4 (fun _ _ h=>h);have HB4:Hid (aD w4 B 71 (eA (N+1:Nat) came kV wV kT wT kM wM vA3)):=HB3.out.kept k4 (by omega);have bx4:=HB4.out;have c1:=bx4.cell (o:=1) rfl;have c2:=bx4.cell (o:=2) rfl;have c3:=bx4.cell (o:=5) rfl;have c4:=bx4.cell (o:=6) rfl;have f1:=bx4.frozen 1;have f2:=bx4.frozen 2;have f3:=bx4.frozen 5;have f4:=bx4.frozen 6;have HK4:Hid (aB (fun b=>w3.heap.size<=b) w3 w4):=k4;clear bx4 k4 hb4;have cw1:IntKind.i64.wrap ((came:Int)+1)=(came:Int)+1:=IntWalk.i64_in _ (by omega);have HNF:Hid (∀g,g < w.heap.size->((((lab g=1/\g < w.heap.size)\/w2.heap.size<=g)\/kT.ownBlock=some g)->lab g=1\/lab g=4)):=fun g hg h=>by
   rcases h with(h|h)|h
   ·exact .inl h.1
   ·omega
   ·exact .inr (HKL.out g h)
  have hc1:((N+1:Nat):Int)=(N:Int)+1:=by omega
  go_upto_region 9 with fail
  obtain⟨W5,hW5⟩:∃W5,(((w4.setCell ⟨B,2,none⟩ (.bool false)).setCell ⟨B,5,none⟩ (.slice none 0 0)).setCell ⟨B,6,none⟩ (.slice none 0 0)).setCell ⟨B,1,none⟩ (.int .i64 ((came:Int)+1))=W5:=⟨_,rfl⟩;have k5:aB (·= B) w4 W5:=by rw[<-hW5];exact((((aB.refl _ _).setCell (.inl (by rfl)) _).setCell (.inl (by rfl)) _).setCell (.inl (by rfl)) _).setCell (.inl (by rfl)) _
  have bx5:aD W5 B 71 (eA (N+1:Nat) ((came:Int)+1) kV wV (.slice none 0 0) (.slice none 0 0) kM wM vA3):=by rw[<-hW5];exact(((HB4.out.setAt 2 _).setAt 5 _).setAt 6 _).setAt 1 _
  rw[hW5];clear hW5;have k35:aB (fun b=>b=B\/w3.heap.size<=b) w3 W5:=(HK4.out.mono (fun _ _ h=> .inr h)).trans (k5.mono (fun _ _ h=> .inl h));have HK35:Hid (aB (fun b=>b=B\/w3.heap.size<=b) w3 W5):=k35;have hsz5:=k35.size;have HR5:Hid (W5.ownsRow 0 143 4 vA3 (bs++bs3).length (eD (bs++bs3))):=by
   refine aP HR3.out k35 (fun g e h=> ?_) (a_ _);rcases h with rfl|h
   ·exact bF HR3.out HB3.out (by decide) e
   ·have:=(HR3.out.lt g e).2
    omega
  have HM5:Hid (∀x∈bs++bs3,eT W5 (fun g _=>((lab g=1/\g < w.heap.size)\/w2.heap.size<=g)\/kT.ownBlock=some g) x):=fun x hx=>by
   refine(HM3.out x hx).kept k35 (fun g n t cs ht hb _ h=> ?_) (fun g n t cs ht hb h=>h);rcases h with rfl|h
   ·exact ht.ne.1 (jD hb HB3.out)
   ·have:=hb.lt
    omega
  have HI5:Hid (gC (fun g=>((lab g=1/\g < w.heap.size)\/w2.heap.size<=g)\/kT.ownBlock=some g) (fun g _=>((lab g=1/\g < w.heap.size)\/w2.heap.size<=g)\/kT.ownBlock=some g) W5 B (N+1:Nat) ((came:Int)+1) kV wV (.slice none 0 0) (.slice none 0 0) kM wM (bs++bs3)):=⟨vA3,bx5,HR5.out,HFB3.out,HFA3.out,HM5.out⟩;have HL5:Hid (W5.ownsRow 0 62 3 (.slice al l.length cl) l.length (l.flatMap aJ)):=aP HL3.out k35 (fun g e h=>by
   rcases h with rfl|h
   ·exact bF HL3.out HB3.out (by decide) e
   ·have:=(HL3.out.lt g e).2
    omega) (a_ _)
  have HROW5:Hid (W5.ownsRow w.heap.size 62 3 (.slice aw l.length cw) l.length (l.flatMap aJ)):=aP HROW3.out k35 (fun g e h=>by
   rcases h with rfl|h
   ·exact bF HROW3.out HB3.out (by decide) e
   ·have:=(HROW3.out.lt g e).2
    omega) (a_ _)
  have k12:aB (fun b=>lab b=1\/lab b=4) w w2:=(HK1.out.mono (fun _ _ h=>h.elim)).andThen HK2.out (fun b h1 h2=>by omega);have k15:aB (fun b=>lab b=1\/lab b=4) w W5:=(k12.andThen HK3.out (fun b h1 h2=>HNF.out b h1 h2)).andThen k35 (fun b h1 h2=>by
   rcases h2 with rfl|h2
   ·exact .inl hFB0
   ·omega)
  have HK15:Hid (aB (fun b=>lab b=1\/lab b=4) w W5):=k15;have HLT1:Hid (∀g,(Value.slice aw l.length cw).ownBlock=some g->w.heap.size<=g/\g < w1.heap.size):=HROW1.out.lt;have e1:=bx5.cell (o:=1) rfl;clear k15 k12 k35 k5 c1 c2 c3 c4 f1 f2 f3 f4;have hz:∀g,lab g≠0->(Value.slice al l.length cl).ownBlock≠some g:=fun g h e=>h (HLF.out g e)
  by_cases hpar:(came+1) % 2=0
  ·have hp1:((came:Int)+1) % 2=0:=by omega
   have hp2:((came:Int)+1).tmod 2=0:=by rw[Int.tmod_eq_emod_of_nonneg (by omega)];exact hp1
   clear bx5
   go_wp2_with (go_at_call 126;refine(vK (fun g=>((lab g=1/\g < w.heap.size)\/w2.heap.size<=g)\/kT.ownBlock=some g) B (N+1) ((came:Int)+1) kV wV (.slice none 0 0) (.slice none 0 0) kM wM (.slice al l.length cl) (bs++bs3) l.length (l.flatMap aJ) W5 (fun b h=> .inl (.inr (by omega))) HI5.out HL5.out (fun g e h=>by have h1:=HL.out.lt g e;have h2:=HLF.out g e;have h3:=HNF.out g h1.2 h;omega) (by omega) (by rw[f_,HBS.out,HLEN3.out];omega) (by omega)).mono ?_;rintro e w6 ⟨rfl,bs6,hlen6,hI6,hk6⟩)
   go_end0
   have hk:aB (fun b=>(lab b=1\/lab b=4)\/(Value.slice al l.length cl).ownBlock=some b) w w6:=(HK15.out.mono (fun _ _ h=> .inl h)).andThen hk6 (fun b h1 h2=>by
    rcases h2 with h2|h2
    ·exact .inl (HNF.out b h1 h2)
    ·exact .inr h2)
   have hlab':∀g,(((lab g=1/\g < w.heap.size)\/w2.heap.size<=g)\/kT.ownBlock=some g)\/(Value.slice al l.length cl).ownBlock=some g->(fun b=>if b < w.heap.size then(if lab b=4\/(Value.slice al l.length cl).ownBlock=some b then 1 else lab b)else 1) g=1:=fun g h=>by
    dsimp only;by_cases hg:g < w.heap.size
    ·rw[if_pos hg]
     rcases h with h|h
     ·rcases HNF.out g hg h with h|h
      ·split<;>simp[h]
      ·rw[if_pos (.inl h)]
     ·rw[if_pos (.inr h)]
    ·rw[if_neg hg]
   refine⟨rfl,N+2,by omega,⟨fun b=>if b < w.heap.size then(if lab b=4\/(Value.slice al l.length cl).ownBlock=some b then 1 else lab b)else 1,kV,wV,.slice none 0 0,.slice none 0 0,kM,wM,lV,[],lM,(bs++bs3)++bs6,fun b hb=> ?_,by rw[f_,f_,HBS.out,HLEN3.out,hlen6];omega,hI6.kept (aB.refl (fun _=>False) _) (fun _ _ _ h=>h) (fun _ _ _ _ h=>h) (fun g _ h=>hlab' g h) (fun g _ _ h=>hlab' g h),?_,?_,?_⟩,?_⟩
   ·dsimp only at hb
    by_cases hg:b < w.heap.size
    ·rw[if_pos hg]at hb
     by_cases h:lab b=4\/(Value.slice al l.length cl).ownBlock=some b
     ·rcases h with h|h
      ·exact .inl (HLAB.out b (by omega))
      ·exact .inr (.inr h)
     ·rw[if_neg h]at hb
      exact .inl (HLAB.out b hb)
    ·exact .inr (.inl (by omega))
   all_goals first
    |exact fW.nil _ _ _ _ _ _ _
    |exact hk.mono (fun b _ h=>h.elim (fun h=> .inl (HLAB.out b (by omega))) .inr)
    |exact HOV.out.kept hk (fun g hg h=>⟨fun h'=>h'.elim (fun h'=>by omega) (hz g (by omega)),(if_pos hg).trans (if_neg (fun h'=>h'.elim (fun h'=>by omega) (hz g (by omega))))⟩)
    |exact HOM.out.kept hk (fun g hg h=>⟨fun h'=>h'.elim (fun h'=>by omega) (hz g (by omega)),(if_pos hg).trans (if_neg (fun h'=>h'.elim (fun h'=>by omega) (hz g (by omega))))⟩)
  ·have hp1:((came:Int)+1) % 2=1:=by omega
   have hp2:((came:Int)+1).tmod 2=1:=by rw[Int.tmod_eq_emod_of_nonneg (by omega)];exact hp1
   have f3:=bx5.frozen 5;have f4:=bx5.frozen 6;have c3:=bx5.cell (o:=5) rfl;have c4:=bx5.cell (o:=6) rfl;have HBX5:Hid (aD W5 B 71 (eA (N+1:Nat) ((came:Int)+1) kV wV (.slice none 0 0) (.slice none 0 0) kM wM vA3)):=bx5;clear bx5
   go_wp2_with fail
   go_end0
   obtain⟨W6,hW6⟩:∃W6,(W5.setCell ⟨B,5,none⟩ (.slice al l.length cl)).setCell ⟨B,6,none⟩ (.slice aw l.length cw)=W6:=⟨_,rfl⟩;have k6:aB (·= B) W5 W6:=by rw[<-hW6];exact((aB.refl _ _).setCell (.inl (by rfl)) _).setCell (.inl (by rfl)) _
   have bx6:aD W6 B 71 (eA (N+1:Nat) ((came:Int)+1) kV wV (.slice al l.length cl) (.slice aw l.length cw) kM wM vA3):=by rw[<-hW6];exact(HBX5.out.setAt 5 _).setAt 6 _
   rw[hW6];have hk:aB (fun b=>lab b=1\/lab b=4) w W6:=HK15.out.andThen k6 (fun b _ h=>by subst h;exact .inl hFB0);have hlab':∀g,((lab g=1/\g < w.heap.size)\/w2.heap.size<=g)\/kT.ownBlock=some g->(fun b=>if b < w.heap.size then(if lab b=4 then 1 else if(Value.slice al l.length cl).ownBlock=some b then 4 else lab b)else if b < w1.heap.size then 5 else 1) g=1:=fun g h=>by
    dsimp only;by_cases hg:g < w.heap.size
    ·rw[if_pos hg]
     rcases HNF.out g hg h with h'|h'
     ·rw[if_neg (by omega),if_neg (fun e=>by have:=HLF.out g e;omega)];exact h'
     ·rw[if_pos h']
    ·rw[if_neg hg,if_neg]
     rcases h with(h|h)|h
     ·omega
     ·omega
     ·have:=(HKR.out.lt g h).2
      omega
   have hnew:fW 62 3 aJ (fun b=>if b < w.heap.size then(if lab b=4 then 1 else if(Value.slice al l.length cl).ownBlock=some b then 4 else lab b)else if b < w1.heap.size then 5 else 1) 4 5 W6 (.slice al l.length cl) (.slice aw l.length cw) l:=by
    refine⟨aP HL5.out k6 (fun g e h=> ?_) (a_ _),fun g e=> ?_,iX (aP HROW5.out k6 (fun g e h=> ?_) (a_ _)) (Nat.zero_le _),fun g e=> ?_,hn⟩
    ·subst h
     exact bF HL5.out HBX5.out (by decide) e
    ·have h1:=(HL.out.lt g e).2
     have h2:=HLF.out g e;dsimp only;rw[if_pos h1,if_neg (by omega),if_pos e]
    ·subst h
     exact bF HROW5.out HBX5.out (by decide) e
    ·have h1:=HLT1.out g e
     dsimp only;rw[if_neg (by omega),if_pos h1.2]
   refine⟨rfl,N+1,by omega,⟨fun b=>if b < w.heap.size then(if lab b=4 then 1 else if(Value.slice al l.length cl).ownBlock=some b then 4 else lab b)else if b < w1.heap.size then 5 else 1,kV,wV,.slice al l.length cl,.slice aw l.length cw,kM,wM,lV,l,lM,bs++bs3,fun b hb=> ?_,by rw[f_,HBS.out,HLEN3.out];omega,⟨vA3,bx6,aP HR5.out k6 (fun g e h=> ?_) (a_ _),hlab' B HFB3.out,fun g e=>hlab' g (HFA3.out g e),fun x hx=>(HM5.out x hx).kept k6 (fun g n t cs ht hb _ h=> ?_) (fun g _ _ _ _ _ h=>hlab' g h)⟩,?_,?_,?_⟩,hk.mono (fun b _ h=> .inl (HLAB.out b (by omega)))⟩
   ·dsimp only at hb
    by_cases hg:b < w.heap.size
    ·rw[if_pos hg]at hb
     by_cases h:lab b=4
     ·exact .inl (HLAB.out b (by omega))
     ·rw[if_neg h]at hb
      by_cases h':(Value.slice al l.length cl).ownBlock=some b
      ·exact .inr (.inr h')
      ·rw[if_neg h']at hb
       exact .inl (HLAB.out b hb)
    ·exact .inr (.inl (by omega))
   ·subst h
    exact bF HR5.out HBX5.out (by decide) e
   ·subst h
    exact ht.ne.1 (jD hb HBX5.out)
   all_goals first
    |exact hnew
    |exact HOV.out.kept hk (fun g hg h=>⟨fun h'=>by omega,(if_pos hg).trans ((if_neg (by omega)).trans (if_neg (hz g (by omega))))⟩)
    |exact HOM.out.kept hk (fun g hg h=>⟨fun h'=>by omega,(if_pos hg).trans ((if_neg (by omega)).trans (if_neg (hz g (by omega))))⟩)
theorem aGt(G:Nat->Nat->Prop)(x:Bk)(w:World)(hm:eT w G x) :
  Calls prog 81 #[.agg #[.int .i64 x.1,x.2.1,x.2.2.1,x.2.2.2]] w fun e w'=>e= .returned (.bool true)/\Below w.heap.size w w':=by
 obtain⟨N,v,t,m⟩:=x;obtain⟨⟨aV,nV,cV,hvV,⟨hnV,hN0,hN1⟩,hcV⟩,⟨aT,nT,cT,hvT,⟨hnT,-,-⟩,hcT⟩,⟨aM,nM,cM,hvM,⟨hnM,-,-⟩,hcM⟩⟩:=hm;dsimp only at hvV hvT hvM hcV hcT hcM hN0 hN1 ⊢;subst hvV hvT hvM;have HCV:=aC hcV;have HCT:=aC hcT;have HCM:=aC hcM;clear hcV hcT hcM;have hsV:=zP;have hgV:=zM;have hsT:=zR;have hgT:=zN;have hsM:=zO;have hgM:=zL;go_enter func81,ntmps81
 go_upto_region 1 with fail
 obtain⟨V,hV⟩:∃V,w.alloc (Obj.cells #[.int .i64 N,.slice aV nV cV,.slice aT nT cT,.slice aM nM cM] 143)=V:=⟨_,rfl⟩;have bX:aD V w.heap.size 143 #[.int .i64 N,.slice aV nV cV,.slice aT nT cT,.slice aM nM cM]:=by rw[<-hV];exact aD.new w _ _
 have hbV:Below w.heap.size w V:=by rw[<-hV];exact(e_ _ _).alloc (a_ _) _
 rw[hV];clear hV;have HBX:Hid (aD V w.heap.size 143 #[.int .i64 N,.slice aV nV cV,.slice aT nT cT,.slice aM nM cM]):=bX;have hwr:IntKind.i64.wrap (-100000 - N)= -100000 - N:=IntWalk.i64_in _ (by omega);have hwr2:IntKind.i64.wrap (-N)= -N:=IntWalk.i64_in _ (by omega);clear bX
 go_wp2_with fail
 go_loopw [3] (fun i wr=>∃k:Nat,k<=nV/\i= .int .i64 k/\Below V.heap.size V wr) (fun i _=>nV - (intOf i).toNat)
 case atStart=>exact⟨0,Nat.zero_le _,rfl,e_ _ _⟩
 case round=>
  skip
  obtain⟨k,hk,rfl,hbw⟩:=hrel
  rename World=>wr
  have hbx:=HBX.out.below hbw HBX.out.lt;have x0:=hbx.cell (o:=0) rfl;have x1:=hbx.cell (o:=1) rfl;have x2:=hbx.cell (o:=2) rfl;have x3:=hbx.cell (o:=3) rfl;have HBW:Hid (Below V.heap.size V wr):=hbw;clear hbx hbw;by_cases hlt:k < nV
  ·obtain⟨g,cs,hga,_,hb,hcc⟩:=HCV.out k hlt
   subst hga;have hb2:=(hb.below hbV hb.lt).below HBW.out (Nat.lt_of_lt_of_le hb.lt hbV.size);have y0:=hb2.cell (hcc 0 _ rfl);have y1:=hb2.cell (hcc 1 _ rfl);simp only[gT,Nat.add_zero]at y0 y1;have i1:(0:Int)<=(k:Int):=by omega
   have i2:(k:Int) < (nV:Int):=by omega
   clear hb hb2 hcc
   go_wp2_with fail
   go_quiet (fail)
   go_wp2_with fail
   go_roundw
   case rel=>exact⟨k+1,by omega,by go_num,below_drewN HBW.out _⟩
   case measure=>simp[intOf];omega
  ·go_wp2_with fail
   go_loopw [4] (fun i wr=>∃k:Nat,k<=nT/\i= .int .i64 k/\Below V.heap.size V wr) (fun i _=>nT - (intOf i).toNat)
   case atStart=>exact⟨0,Nat.zero_le _,rfl,HBW.out⟩
   case round=>
    clear HBW x0 x1 x2 x3;obtain⟨k,hk,rfl,hbw⟩:=hrel
    rename World=>wr
    have hbx:=HBX.out.below hbw HBX.out.lt;have x0:=hbx.cell (o:=0) rfl;have x1:=hbx.cell (o:=1) rfl;have x2:=hbx.cell (o:=2) rfl;have x3:=hbx.cell (o:=3) rfl;have HBW:Hid (Below V.heap.size V wr):=hbw;clear hbx hbw;by_cases hlt:k < nT
    ·obtain⟨g,cs,hga,_,hb,hcc⟩:=HCT.out k hlt
     subst hga;have hb2:=(hb.below hbV hb.lt).below HBW.out (Nat.lt_of_lt_of_le hb.lt hbV.size);have y0:=hb2.cell (hcc 0 _ rfl);have y1:=hb2.cell (hcc 1 _ rfl);have y2:=hb2.cell (hcc 2 _ rfl);simp only[gR,Nat.add_zero]at y0 y1 y2;have i1:(0:Int)<=(k:Int):=by omega
     have i2:(k:Int) < (nT:Int):=by omega
     clear hb hb2 hcc
     go_wp2_with fail
     go_quiet (fail)
     go_wp2_with fail
     go_roundw
     case rel=>exact⟨k+1,by omega,by go_num,below_drewN HBW.out _⟩
     case measure=>simp[intOf];omega
    ·go_wp2_with fail
     go_loopw [5] (fun i wr=>∃k:Nat,k<=nM/\i= .int .i64 k/\Below V.heap.size V wr) (fun i _=>nM - (intOf i).toNat)
     case atStart=>exact⟨0,Nat.zero_le _,rfl,HBW.out⟩
     case round=>
      clear HBW x0 x1 x2 x3;obtain⟨k,hk,rfl,hbw⟩:=hrel
      rename World=>wr
      have hbx:=HBX.out.below hbw HBX.out.lt;have x0:=hbx.cell (o:=0) rfl;have x1:=hbx.cell (o:=1) rfl;have x2:=hbx.cell (o:=2) rfl;have x3:=hbx.cell (o:=3) rfl;have HBW:Hid (Below V.heap.size V wr):=hbw;clear hbx hbw;by_cases hlt:k < nM
      ·obtain⟨g,cs,hga,_,hb,hcc⟩:=HCM.out k hlt
       subst hga;have hb2:=(hb.below hbV hb.lt).below HBW.out (Nat.lt_of_lt_of_le hb.lt hbV.size);have y0:=hb2.cell (hcc 0 _ rfl);have y1:=hb2.cell (hcc 1 _ rfl);have y2:=hb2.cell (hcc 2 _ rfl);have y3:=hb2.cell (hcc 3 _ rfl);have y4:=hb2.cell (hcc 4 _ rfl);have y5:=hb2.cell (hcc 5 _ rfl);have y6:=hb2.cell (hcc 6 _ rfl);have y7:=hb2.cell (hcc 7 _ rfl);have y8:=hb2.cell (hcc 8 _ rfl);have y9:=hb2.cell (hcc 9 _ rfl);have y10:=hb2.cell (hcc 10 _ rfl);have y11:=hb2.cell (hcc 11 _ rfl);have y12:=hb2.cell (hcc 12 _ rfl);have y13:=hb2.cell (hcc 13 _ rfl);have y14:=hb2.cell (hcc 14 _ rfl);simp only[gS,Nat.add_zero]at y0 y1 y2 y3 y4 y5 y6 y7 y8 y9 y10 y11 y12 y13 y14;have i1:(0:Int)<=(k:Int):=by omega
       have i2:(k:Int) < (nM:Int):=by omega
       clear hb hb2 hcc
       go_wp2_with fail
       go_quiet (fail)
       go_wp2_with fail
       go_roundw
       case rel=>exact⟨k+1,by omega,by go_num,below_drewN HBW.out _⟩
       case measure=>simp[intOf];omega
      ·go_wp2_with fail
       go_ret;exact⟨rfl,hbV.trans (HBW.out.mono hbV.size)⟩
end Go.Proofs.YtfanaanofjhlkaaGreatDoor
