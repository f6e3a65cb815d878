import Derived.Test.YtfanaanofjhlkaaGreatDoorXOut
import Derived.Test.YtfanaanofjhlkaaGreatDoorStoreM
set_option maxHeartbeats 16000000
set_option maxRecDepth 100000
namespace Go.Proofs.YtfanaanofjhlkaaGreatDoor
open Go Go.RowKit Tryz
attribute [local go_sem] Oper.semAt_some
def lL(l:aO):aI×Bool:=match l.left with
 |[]=>(aH,false)
 |x :: _=>(x,true)
theorem aIj(X:Nat->Prop)(q:Nat)(l:aO)(w:World)(h:jP X w q l)(hn:l.all.length<=100000000) :
  Calls prog 184 #[.pointer (some ⟨q,0,none⟩)] w fun e w'=>∃v,e= .returned v/\(v= .tuple #[dJ (lL l).1,.bool (lL l).2]/\jP (fun b=>X b\/w.heap.size<=b) w' q l/\aB X w w'):=by
 obtain⟨c,cap,hq,hXq,⟨s,r,hch⟩,hXc,h4,hcap,hlen⟩:=h;have hcw:c < w.heap.size:=(h_.1 hch).1;have hqw:=hq.lt;have hqc:q≠c:=fun e=>by subst e;have h1:w.heap[q]?= _:=hq;rw[hch]at h1;cases h1
 refine(callsIn_wide (n:=5)).1 ?_;refine callsIn_of_wp_marks func184 rfl trivial ?_ rfl;simp only[ntmps184,List.size_toArray,List.length_cons,List.length_nil,Nat.reduceAdd,Nat.reduceSub,Array.replicate_succ,Array.replicate_zero,List.push_toArray,List.append_toArray,List.nil_append,List.cons_append];obtain⟨Z,hZ⟩:∃Z,(w.alloc (Obj.cells (aG aH) 124)).alloc (Obj.cells #[.bool false] 4)=Z:=⟨_,rfl⟩;have gZ:Below w.heap.size w Z:=by rw[<-hZ];exact((e_ _ _).alloc (a_ _) _).alloc (by simp) _
 have sZ:Z.heap.size=w.heap.size+2:=by rw[<-hZ];simp
 have bM:aD Z w.heap.size 124 (aG aH):=by rw[<-hZ];exact(aD.new w _ _).alloc _
 have bB:aD Z (w.heap.size+1) 4 #[.bool false]:=by rw[<-hZ];exact fM _ _ _ _ (by simp)
 have qZ:=hq.below gZ hqw;have cZ:Z.heap[c]?= some (.chan cap (l.left.map dJ).toArray false s r false):=(gZ.block c hcw).trans hch;have y1:=qZ.cell (o:=1) rfl;have hcp:∀ty,(Builtin.cap_ #[157] ty #[.chan (some c)]).run prog Z= .ok (.int .i64 (cap:Int)) Z:=fun ty=>tO _ _ underlying157 cZ
 have e0:(w.alloc (Obj.cells (aG aH) 124)).alloc (Obj.cells #[.bool false] 4)=Z:=hZ;simp only[aH]at e0;clear hZ
 gi_wp2_with fail
 refine⟨trivial,?_⟩;refine callsIn_wide.2 ?_;refine(vI q _ Z).mono ?_;rintro e w1 ⟨rfl,hw1⟩;have b1:aD w1 Z.heap.size 206 #[.pointer (some ⟨q,0,none⟩)]:=by rw[hw1];exact(aD.new Z _ _).alloc _
 have b2:aD w1 (Z.heap.size+1) 3 #[.int .i64 (cap:Int)]:=by rw[hw1];exact fM _ _ _ _ (by simp)
 have g1:Below Z.heap.size Z w1:=by rw[hw1];exact((e_ _ _).alloc (a_ _) _).alloc (by simp) _
 have s1:w1.heap.size=Z.heap.size+2:=by rw[hw1];simp
 have q1:=qZ.below g1 qZ.lt;have c1:w1.heap[c]?= some (.chan cap (l.left.map dJ).toArray false s r false):=(g1.block c (by omega)).trans cZ;have r1:=bM.below g1 bM.lt;have t1:=bB.below g1 bB.lt;have g0:Below w.heap.size w w1:=gZ.trans (g1.mono (by omega));clear hw1 y1 hcp e0 bM bB qZ cZ gZ g1
 gi_wp2
 obtain⟨H,hH⟩:∃H,w.heap.size=H:=⟨_,rfl⟩;rw[sZ,hH]at b1 b2 s1;rw[hH]at r1 t1;rw[hH];refine tN (n:=5) rfl (enters_of func218 (by kernel_rfl) rfl) (fun rec hyield=> ?_);obtain⟨V,hV⟩:∃V,(w1.alloc (.deferred (some []))).alloc (.loop (rec .ready none))=V:=⟨_,rfl⟩;have gV:Below w1.heap.size w1 V:=by rw[<-hV];exact((e_ _ _).alloc (a_ _) _).alloc (by simp) _
 have sV:V.heap.size=w1.heap.size+2:=by rw[<-hV];simp
 have lV:V.heap[w1.heap.size+1]?= some (.loop (rec .ready none)):=by
  have h:=World.alloc_heap_new (w1.alloc (.deferred (some []))) (.loop (rec .ready none));rw[World.size_alloc]at h;rw[<-hV];exact h
 have dV:V.heap[w1.heap.size]?= some (.deferred (some [])):=by
  rw[<-hV];exact(Below.heap_alloc _ _ _ (by simp)).trans (World.alloc_heap_new w1 _)
 rw[hV];obtain⟨D,hD⟩:∃D,w1.heap.size=D:=⟨_,rfl⟩;rw[hD]at hyield lV dV gV sV s1 ⊢;have rV:aD V H 124 (aG aH):=r1.below (by rw[hD];exact gV) r1.lt;have tV:aD V (H+1) 4 #[.bool false]:=t1.below (by rw[hD];exact gV) t1.lt;have gwV:Below w.heap.size w V:=g0.trans (gV.mono (by omega));refine(vD (5 - 1) (D+1) q c cap s r cap (H+2+1) (H+2) (.int .i64 (l.all.length:Int)) l.left V (fun k=>k=D+1\/k=H\/k=H+1)
  (fun p A=>p=[]/\A.heap[D+1]?= some (.loop (rec .ready none))/\A.heap[D]?= some (.deferred (some []))/\aD A H 124 (aG aH)/\aD A (H+1) 4 #[.bool false])
  (fun A=>∃x y,l.left=x :: y/\A.heap[D+1]?= some (.loop (rec .done (some .ret)))/\A.heap[D]?= some (.deferred (some []))/\aD A H 124 (aG x)/\aD A (H+1) 4 #[.bool true])
  (q1.below (by rw[hD];exact gV) q1.lt) ((gV.block c (by omega)).trans c1) (b2.below (by rw[hD];exact gV) b2.lt) (b1.below (by rw[hD];exact gV) b1.lt) hlen (by omega) (fun k hk=>by omega)
  (fun p A B h hk=>⟨h.1,hk.heap h.2.1 (by omega),hk.heap h.2.2.1 (by omega),h.2.2.2.1.kept hk (by omega),h.2.2.2.2.kept hk (by omega)⟩)
  (fun A B h hk=>by
   obtain⟨x,y,h0,h1,h2,h3,h5⟩:=h;exact⟨x,y,h0,hk.heap h1 (by omega),hk.heap h2 (by omega),h3.kept hk (by omega),h5.kept hk (by omega)⟩)
  ⟨rfl,lV,dV,rV,tV⟩ ?yields).mono ?_
 case yields=>
  rintro p m W1 hpre ⟨rfl,hl1,hd1,hr1,ht1⟩;obtain⟨y,hy⟩:=hpre;have HY:l.left=m :: y:=by rw[<-hy];rfl
  have hHD:H+4<=D:=by omega
  have key:∀R:Ending->World->Prop,(∀V,V.heap[D+1]?= some (.loop (rec .busy none))->V.heap[D]?= some (.deferred (some []))->aD V H 124 (aG m)->aD V (H+1) 4 #[.bool true]->aB (fun k=>k=D+1\/k=H\/k=H+1) W1 V->R (.returned (.bool false)) (V.putObj (D+1) (.loop (rec .done (some .ret)))))->YieldAt Fence.wide (5 - 1 - 1) prog (D+1) #[dJ m] W1 R:=fun R hR=>by
   have HRR:=aC hR;refine hyield _ _ W1 _ hl1 rfl (fun K hK=> ?_);have HL1:=aC hl1;have HD1:=aC hd1;have HR1:=aC hr1;have HT1:=aC ht1;clear hl1 hd1 hr1 ht1 hyield lV dV rV tV r1 t1 q1 c1 b1 b2 hy HY hn hq hXq hch hXc h4 hcap hlen hcw hqw hqc sZ s1 sV gV gwV g0 hV hD hH hR
   gi_wp2
   obtain⟨U,hU⟩:∃U,W1.alloc (Obj.cells (aG m) 124)=U:=⟨_,rfl⟩;have kU:aB (fun _=>False) W1 U:=by rw[<-hU];exact aB.alloc _ _ _
   have bU:aD U W1.heap.size 124 (aG m):=by rw[<-hU];exact aD.new W1 _ _
   rw[show W1.alloc (Obj.cells (aG m) 124)=U from hU];have lU:=kU.heap HL1.out (fun h=>h);refine hK _ _ lU ?_;clear hK K hU;obtain⟨T,hT⟩:∃T,U.putObj (D+1) (.loop (rec .busy none))=T:=⟨_,rfl⟩;have hDl:=(h_.1 lU).1;have kT:aB (·= D+1) U T:=by rw[<-hT];exact aB.putObj _ _ _ rfl
   have lT:T.heap[D+1]?= some (.loop (rec .busy none)):=by rw[<-hT];exact World.putObj_heap_same hDl
   have hWl:D+1 < W1.heap.size:=(h_.1 HL1.out).1;have bT:=bU.kept kT (by omega);have rT:=(HR1.out.kept kU (fun h=>h)).kept kT (by omega);have tT:=(HT1.out.kept kU (fun h=>h)).kept kT (by omega);have dT:=kT.heap (kU.heap HD1.out (fun h=>h)) (by omega);rw[hT];obtain⟨Bx,hBx⟩:∃Bx,W1.heap.size=Bx:=⟨_,rfl⟩;rw[hBx]at bT ⊢;have HBL:Hid (D+1 < Bx):=by show _ < _;omega
   obtain⟨m0,m1,m2,m3,m4,m5,m6,m7,m8,m9,m10,m11,m12,m13,m14⟩:=eF bT;obtain⟨z0,z1,z2,z3,z4,z5,z6,z7,z8,z9,z10,z11,z12,z13,z14⟩:=eF rT;have y0:=tT.cell (o:=0) rfl;have fr:=rT.frozen;have ft:=tT.frozen 0;have HLT:=aC lT;have HRT:=aC rT;have HTT:=aC tT;have HDT:=aC dT;have HKT:Hid (aB (·= D+1) W1 T):=(kU.mono (fun _ _ h=>h.elim)).trans kT;clear lT rT tT dT kT kU hT bU lU bT hBx hDl hWl HL1 HD1 HR1 HT1;have kP:aB (·= H) T (dR T H 0 (aK m)):=jC (X:=fun x=>x=H) (.inl rfl) _ _ _ (aB.refl _ _);have bP:=lB (aK m) HRT.out rfl;have tP:=HTT.out.kept kP (by omega);refine wpIn_block (wpIn_seq (wpIn_region ?_));change wpOpsIn _ _ _ _ _ [0,1,2] _ _;refine vO (v:=dJ m) (w':=T) rfl rfl rfl ?_ ?_
   ·rw[show(Fence.wide.inRound (D+1)).round=some (D+1)from rfl,Oper.semAt_some _ _ _ (by intro c;simp)]
    go_simp
   refine qF (w':=dR T H 0 (aK m)) rfl rfl rfl ?_ ?_
   ·rw[show(Fence.wide.inRound (D+1)).round=some (D+1)from rfl,Oper.semAt_some _ _ _ (by intro c;simp),<-sL]
    exact yY _ _ _ _ rfl H _ T HRT.out rfl m rfl rfl
   generalize hPP:dR T H 0 (aK m)=P2 at kP bP tP ⊢;have y2:=tP.cell (o:=0) rfl;have f2:=tP.frozen 0;refine qF (w':=P2.setCell ⟨H+1,0,none⟩ (.bool true)) rfl rfl rfl ?_ ?_
   ·rw[show(Fence.wide.inRound (D+1)).round=some (D+1)from rfl,Oper.semAt_some _ _ _ (by intro c;simp)]
    go_simp
   have kQ:aB (·= H+1) P2 (P2.setCell ⟨H+1,0,none⟩ (.bool true)):=(aB.refl _ _).setCell (.inl (by rfl)) _;have kF:aB (fun k=>k=H\/k=H+1) T (P2.setCell ⟨H+1,0,none⟩ (.bool true)):=(kP.mono (fun _ _ h=> .inl h)).trans (kQ.mono (fun _ _ h=> .inr h));have lF:=kF.heap HLT.out (by omega);refine wpIn_ret ⟨lF,HRR.out _ lF (kF.heap HDT.out (by omega)) (bP.kept kQ (by omega)) (tP.setAt 0 _) ((HKT.out.mono (fun _ _ h=> .inl h)).trans (kF.mono (fun _ _ h=>by omega)))⟩
  refine key _ (fun V h1 h2 h3 h5 h6=>⟨.inr ⟨rfl,m,y,HY,World.putObj_heap_same (h_.1 h1).1,(World.putObj_heap_other (by omega)).trans h2,h3.kept (aB.putObj (X:=(·= D+1)) _ _ _ rfl) (by omega),h5.kept (aB.putObj (X:=(·= D+1)) _ _ _ rfl) (by omega)⟩,h6.trans (aB.putObj _ _ _ (.inl rfl))⟩)
 ·rintro e W' ⟨⟨v,rfl⟩,hj,hq',hc',hk'⟩
  have hOut:∀W9,aB (fun k=>k=D\/k=D+1\/k=H\/k=H+1) W' W9->jP (fun b=>X b\/w.heap.size<=b) W9 q l/\aB X w W9:=fun W9 k9=>by
   refine⟨⟨V.heap.size,cap,hq'.kept k9 (by omega),.inl hXq,hc'.kept k9 (by omega),.inr (by omega),h4,hcap,hlen⟩,?_⟩;exact((aB.of_below gwV (X:=X) (fun b h1 h2=>by omega)).andThen hk' (fun b hb h=>by
    rcases h with(h|h|h)|h|h
    ·omega
    ·omega
    ·omega
    ·subst h;exact hXc
    ·subst h;exact hXq)).andThen k9 (fun b hb h=>by omega)
  have HOUT:=aC hOut;rcases hj with⟨hj0,hl1,hd1,hr1,ht1⟩|⟨x,y,hxy,hl1,hd1,hr1,ht1⟩
  ·have HO:Hid (lL l=(aH,false)):=by show _=_;simp[lL,hj0]
   refine⟨⟨_,rfl⟩,.inl ⟨hl1,?_⟩⟩;have k8:aB (·= D+1) W' (W'.putObj (D+1) (.loop (rec .exhausted none))):=aB.putObj _ _ _ rfl;generalize W'.putObj (D+1) (.loop (rec .exhausted none))=W8 at k8 ⊢;have hd8:=k8.heap hd1 (by omega);have hr8:=hr1.kept k8 (by omega);have ht8:=ht1.kept k8 (by omega);rename_i hcont;refine hcont _ _ ?_;clear hcont;have kP:aB (·= H) W8 (dR W8 H 0 (aK aH)):=jC (X:=fun x=>x=H) (.inl rfl) _ _ _ (aB.refl _ _);have bP:=lB (aK aH) hr8 rfl;have tP:=ht8.kept kP (by omega);refine wpIn_seq (wpIn_region ?_);change wpOpsIn _ _ _ _ _ [0,1,2] _ _;refine vO (v:=dJ aH) (w':=W8) rfl rfl rfl ?_ ?_
   ·rw[tY]
    go_simp
    exact⟨rfl,rfl,rfl,rfl,rfl,rfl,rfl,rfl,rfl,rfl,rfl,rfl,rfl,rfl,rfl⟩
   refine qF (w':=dR W8 H 0 (aK aH)) rfl rfl rfl ?_ ?_
   ·rw[tY,<-sL]
    exact yY _ _ _ _ rfl H _ W8 hr8 rfl aH rfl rfl
   generalize hPP:dR W8 H 0 (aK aH)=P2 at kP bP tP ⊢;have y2:=tP.cell (o:=0) rfl;have f2:=tP.frozen 0;refine qF (w':=P2.setCell ⟨H+1,0,none⟩ (.bool false)) rfl rfl rfl ?_ ?_
   ·rw[tY]
    go_simp
   have kQ:aB (·= H+1) P2 (P2.setCell ⟨H+1,0,none⟩ (.bool false)):=(aB.refl _ _).setCell (.inl (by rfl)) _;have kF:aB (fun k=>k=H\/k=H+1) W8 (P2.setCell ⟨H+1,0,none⟩ (.bool false)):=(kP.mono (fun _ _ h=> .inl h)).trans (kQ.mono (fun _ _ h=> .inr h));have hd9:=kF.heap hd8 (by omega);have hr9:aD _ H 124 (aG aH):=bP.kept kQ (by omega);have ht9:=tP.setAt 0 (.bool false);generalize P2.setCell ⟨H+1,0,none⟩ (.bool false)=W9 at kF hd9 hr9 ht9 ⊢;have k10:aB (·= D) W9 (W9.putObj D (.deferred none)):=aB.putObj _ _ _ rfl;have hr10:=hr9.kept k10 (by omega);have ht10:=ht9.kept k10 (by omega);obtain⟨u0,u1,u2,u3,u4,u5,u6,u7,u8,u9,u10,u11,u12,u13,u14⟩:=eF hr10;have uy:=ht10.cell (o:=0) rfl;refine wpIn_ret ?_;refine⟨by simp,.inl ⟨_,_,rfl,run_takeDeferred hd9,?_⟩⟩;refine⟨.tuple #[dJ aH,.bool false],?_,_,rfl,by rw[HO.out],HOUT.out _ (((k8.mono (fun _ _ h=>by omega)).trans (kF.mono (fun _ _ h=>by omega))).trans (k10.mono (fun _ _ h=>by omega)))⟩;simp[results,Tryz.f184,go_sem,u0,u1,u2,u3,u4,u5,u6,u7,u8,u9,u10,u11,u12,u13,u14,uy]
  ·have HO:Hid (lL l=(x,true)):=by show _=_;simp[lL,hxy]
   refine⟨⟨_,rfl⟩,.inr ⟨.ret,hl1,?_⟩⟩;have k8:aB (·= D+1) W' (W'.putObj (D+1) (.loop (rec .exhausted (some .ret)))):=aB.putObj _ _ _ rfl;generalize W'.putObj (D+1) (.loop (rec .exhausted (some .ret)))=W8 at k8 ⊢;have hd9:=k8.heap hd1 (by omega);have hr9:=hr1.kept k8 (by omega);have ht9:=ht1.kept k8 (by omega);refine wpIn_ret ?_;have k10:aB (·= D) W8 (W8.putObj D (.deferred none)):=aB.putObj _ _ _ rfl;have hr10:=hr9.kept k10 (by omega);have ht10:=ht9.kept k10 (by omega);obtain⟨u0,u1,u2,u3,u4,u5,u6,u7,u8,u9,u10,u11,u12,u13,u14⟩:=eF hr10;have uy:=ht10.cell (o:=0) rfl;refine⟨by simp,.inl ⟨_,_,rfl,run_takeDeferred hd9,?_⟩⟩;refine⟨.tuple #[dJ x,.bool true],?_,_,rfl,by rw[HO.out],HOUT.out _ ((k8.mono (fun _ _ h=>by omega)).trans (k10.mono (fun _ _ h=>by omega)))⟩;simp[results,Tryz.f184,go_sem,u0,u1,u2,u3,u4,u5,u6,u7,u8,u9,u10,u11,u12,u13,u14,uy]
end Go.Proofs.YtfanaanofjhlkaaGreatDoor
