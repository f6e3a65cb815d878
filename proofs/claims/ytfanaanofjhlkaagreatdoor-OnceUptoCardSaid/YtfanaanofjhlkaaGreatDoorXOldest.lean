import Derived.Test.YtfanaanofjhlkaaGreatDoorXOut
import Derived.Test.YtfanaanofjhlkaaGreatDoorStoreM
namespace Go.Proofs.YtfanaanofjhlkaaGreatDoor
open Go Go.RowKit
attribute [local go_sem] Oper.semAt_some
def oldestS(l:LinkS):MsgS×Bool:=match l.left with
 |[]=>(msg0,false)
 |x :: _=>(x,true)
set_option maxHeartbeats 8000000 in
set_option maxRecDepth 100000 in
theorem oldest_out(X:Nat->Prop)(q:Nat)(l:LinkS)(w:World)(h:OutAt X w q l)(hn:l.all.length<=100000000) :
  Calls Tryz.prog 184 #[.pointer (some ⟨q,0,none⟩)] w fun e w'=>∃v,e= .returned v/\(v= .tuple #[msgV (oldestS l).1,.bool (oldestS l).2]/\OutAt (fun b=>X b\/w.heap.size<=b) w' q l/\Kept X w w'):=by
 obtain⟨c,cap,hq,hXq,⟨s,r,hch⟩,hXc,h4,hcap,hlen⟩:=h
 have hcw:c < w.heap.size:=(Array.getElem?_eq_some_iff.1 hch).1
 have hqw:=hq.lt
 have hqc:q≠c:=fun e=>by subst e;have h1:w.heap[q]?= _:=hq;rw[hch]at h1;cases h1
 refine(callsIn_wide (n:=5)).1 ?_
 refine callsIn_of_wp_marks Tryz.func184 rfl trivial ?_ rfl
 simp only[Tryz.ntmps184,List.size_toArray,List.length_cons,List.length_nil,Nat.reduceAdd,Nat.reduceSub,Array.replicate_succ,Array.replicate_zero,List.push_toArray,List.append_toArray,List.nil_append,List.cons_append]
 obtain⟨Z,hZ⟩:∃Z,(w.alloc (Obj.cells (msgCells msg0) 124)).alloc (Obj.cells #[.bool false] 4)=Z:=⟨_,rfl⟩
 have gZ:Below w.heap.size w Z:=by rw[<-hZ];exact((Below.refl _ _).alloc (Nat.le_refl _) _).alloc (by simp) _
 have sZ:Z.heap.size=w.heap.size+2:=by rw[<-hZ];simp
 have bM:BoxAt Z w.heap.size 124 (msgCells msg0):=by rw[<-hZ];exact(BoxAt.new w _ _).alloc _
 have bB:BoxAt Z (w.heap.size+1) 4 #[.bool false]:=by rw[<-hZ];exact boxAt_at _ _ _ _ (by simp)
 have qZ:=hq.below gZ hqw
 have cZ:Z.heap[c]?= some (.chan cap (l.left.map msgV).toArray false s r false):=(gZ.block c hcw).trans hch
 have y1:=qZ.cell (o:=1) rfl
 have hcp:∀ty,(Builtin.cap_ #[157] ty #[.chan (some c)]).run Tryz.prog Z= .ok (.int .i64 (cap:Int)) Z:=fun ty=>run_cap_ch _ _ Tryz.underlying157 cZ
 have e0:(w.alloc (Obj.cells (msgCells msg0) 124)).alloc (Obj.cells #[.bool false] 4)=Z:=hZ
 simp only[msg0]at e0
 clear hZ
 gi_wp2_with fail
 refine⟨trivial,?_⟩
 refine callsIn_wide.2 ?_
 refine(through_calls q _ Z).mono ?_
 rintro e w1 ⟨rfl,hw1⟩
 have b1:BoxAt w1 Z.heap.size 206 #[.pointer (some ⟨q,0,none⟩)]:=by rw[hw1];exact(BoxAt.new Z _ _).alloc _
 have b2:BoxAt w1 (Z.heap.size+1) 3 #[.int .i64 (cap:Int)]:=by rw[hw1];exact boxAt_at _ _ _ _ (by simp)
 have g1:Below Z.heap.size Z w1:=by rw[hw1];exact((Below.refl _ _).alloc (Nat.le_refl _) _).alloc (by simp) _
 have s1:w1.heap.size=Z.heap.size+2:=by rw[hw1];simp
 have q1:=qZ.below g1 qZ.lt
 have c1:w1.heap[c]?= some (.chan cap (l.left.map msgV).toArray false s r false):=(g1.block c (by omega)).trans cZ
 have r1:=bM.below g1 bM.lt
 have t1:=bB.below g1 bB.lt
 have g0:Below w.heap.size w w1:=gZ.trans (g1.mono (by omega))
 clear hw1 y1 hcp e0 bM bB qZ cZ gZ g1
 gi_wp2
 obtain⟨H,hH⟩:∃H,w.heap.size=H:=⟨_,rfl⟩
 rw[sZ,hH]at b1 b2 s1
 rw[hH]at r1 t1
 rw[hH]
 refine range_lawG (n:=5) rfl (enters_of Tryz.func218 (by kernel_rfl) rfl) (fun rec hyield=> ?_)
 obtain⟨V,hV⟩:∃V,(w1.alloc (.deferred (some []))).alloc (.loop (rec .ready none))=V:=⟨_,rfl⟩
 have gV:Below w1.heap.size w1 V:=by rw[<-hV];exact((Below.refl _ _).alloc (Nat.le_refl _) _).alloc (by simp) _
 have sV:V.heap.size=w1.heap.size+2:=by rw[<-hV];simp
 have lV:V.heap[w1.heap.size+1]?= some (.loop (rec .ready none)):=by
  have h:=World.alloc_heap_new (w1.alloc (.deferred (some []))) (.loop (rec .ready none))
  rw[World.size_alloc]at h;rw[<-hV];exact h
 have dV:V.heap[w1.heap.size]?= some (.deferred (some [])):=by
  rw[<-hV];exact(Below.heap_alloc _ _ _ (by simp)).trans (World.alloc_heap_new w1 _)
 rw[hV]
 obtain⟨D,hD⟩:∃D,w1.heap.size=D:=⟨_,rfl⟩
 rw[hD]at hyield lV dV gV sV s1 ⊢
 have rV:BoxAt V H 124 (msgCells msg0):=r1.below (by rw[hD];exact gV) r1.lt
 have tV:BoxAt V (H+1) 4 #[.bool false]:=t1.below (by rw[hD];exact gV) t1.lt
 have gwV:Below w.heap.size w V:=g0.trans (gV.mono (by omega))
 refine(through1_calls (5 - 1) (D+1) q c cap s r cap (H+2+1) (H+2) (.int .i64 (l.all.length:Int)) l.left V (fun k=>k=D+1\/k=H\/k=H+1)
  (fun p A=>p=[]/\A.heap[D+1]?= some (.loop (rec .ready none))/\A.heap[D]?= some (.deferred (some []))/\BoxAt A H 124 (msgCells msg0)/\BoxAt A (H+1) 4 #[.bool false])
  (fun A=>∃x y,l.left=x :: y/\A.heap[D+1]?= some (.loop (rec .done (some .ret)))/\A.heap[D]?= some (.deferred (some []))/\BoxAt A H 124 (msgCells x)/\BoxAt A (H+1) 4 #[.bool true])
  (q1.below (by rw[hD];exact gV) q1.lt) ((gV.block c (by omega)).trans c1) (b2.below (by rw[hD];exact gV) b2.lt) (b1.below (by rw[hD];exact gV) b1.lt) hlen (by omega) (fun k hk=>by omega)
  (fun p A B h hk=>⟨h.1,hk.heap h.2.1 (by omega),hk.heap h.2.2.1 (by omega),h.2.2.2.1.kept hk (by omega),h.2.2.2.2.kept hk (by omega)⟩)
  (fun A B h hk=>by
   obtain⟨x,y,h0,h1,h2,h3,h5⟩:=h
   exact⟨x,y,h0,hk.heap h1 (by omega),hk.heap h2 (by omega),h3.kept hk (by omega),h5.kept hk (by omega)⟩)
  ⟨rfl,lV,dV,rV,tV⟩ ?yields).mono ?_
 case yields=>
  rintro p m W1 hpre ⟨rfl,hl1,hd1,hr1,ht1⟩
  obtain⟨y,hy⟩:=hpre
  have HY:l.left=m :: y:=by rw[<-hy];rfl
  have hHD:H+4<=D:=by omega
  have key:∀R:Ending->World->Prop,(∀V,V.heap[D+1]?= some (.loop (rec .busy none))->V.heap[D]?= some (.deferred (some []))->BoxAt V H 124 (msgCells m)->BoxAt V (H+1) 4 #[.bool true]->Kept (fun k=>k=D+1\/k=H\/k=H+1) W1 V->R (.returned (.bool false)) (V.putObj (D+1) (.loop (rec .done (some .ret)))))->YieldAt Fence.wide (5 - 1 - 1) Tryz.prog (D+1) #[msgV m] W1 R:=fun R hR=>by
   have HRR:=hid_of hR
   refine hyield _ _ W1 _ hl1 rfl (fun K hK=> ?_)
   have HL1:=hid_of hl1
   have HD1:=hid_of hd1
   have HR1:=hid_of hr1
   have HT1:=hid_of ht1
   clear hl1 hd1 hr1 ht1 hyield lV dV rV tV r1 t1 q1 c1 b1 b2 hy HY hn hq hXq hch hXc h4 hcap hlen hcw hqw hqc sZ s1 sV gV gwV g0 hV hD hH hR
   gi_wp2
   obtain⟨U,hU⟩:∃U,W1.alloc (Obj.cells (msgCells m) 124)=U:=⟨_,rfl⟩
   have kU:Kept (fun _=>False) W1 U:=by rw[<-hU];exact Kept.alloc _ _ _
   have bU:BoxAt U W1.heap.size 124 (msgCells m):=by rw[<-hU];exact BoxAt.new W1 _ _
   rw[show W1.alloc (Obj.cells (msgCells m) 124)=U from hU]
   have lU:=kU.heap HL1.out (fun h=>h)
   refine hK _ _ lU ?_
   clear hK K hU
   obtain⟨T,hT⟩:∃T,U.putObj (D+1) (.loop (rec .busy none))=T:=⟨_,rfl⟩
   have hDl:=(Array.getElem?_eq_some_iff.1 lU).1
   have kT:Kept (·= D+1) U T:=by rw[<-hT];exact Kept.putObj _ _ _ rfl
   have lT:T.heap[D+1]?= some (.loop (rec .busy none)):=by rw[<-hT];exact World.putObj_heap_same hDl
   have hWl:D+1 < W1.heap.size:=(Array.getElem?_eq_some_iff.1 HL1.out).1
   have bT:=bU.kept kT (by omega)
   have rT:=(HR1.out.kept kU (fun h=>h)).kept kT (by omega)
   have tT:=(HT1.out.kept kU (fun h=>h)).kept kT (by omega)
   have dT:=kT.heap (kU.heap HD1.out (fun h=>h)) (by omega)
   rw[hT]
   obtain⟨Bx,hBx⟩:∃Bx,W1.heap.size=Bx:=⟨_,rfl⟩
   rw[hBx]at bT ⊢
   have HBL:Hid (D+1 < Bx):=by show _ < _;omega
   obtain⟨m0,m1,m2,m3,m4,m5,m6,m7,m8,m9,m10,m11,m12,m13,m14⟩:=cells15 bT
   obtain⟨z0,z1,z2,z3,z4,z5,z6,z7,z8,z9,z10,z11,z12,z13,z14⟩:=cells15 rT
   have y0:=tT.cell (o:=0) rfl
   have fr:=rT.frozen
   have ft:=tT.frozen 0
   have HLT:=hid_of lT
   have HRT:=hid_of rT
   have HTT:=hid_of tT
   have HDT:=hid_of dT
   have HKT:Hid (Kept (·= D+1) W1 T):=(kU.mono (fun _ _ h=>h.elim)).trans kT
   clear lT rT tT dT kT kU hT bU lU bT hBx hDl hWl HL1 HD1 HR1 HT1
   have kP:Kept (·= H) T (putAll T H 0 (msgEnc m)):=kept_putAll (X:=fun x=>x=H) (.inl rfl) _ _ _ (Kept.refl _ _)
   have bP:=box_putAll (msgEnc m) HRT.out rfl
   have tP:=HTT.out.kept kP (by omega)
   refine wpIn_block (wpIn_seq (wpIn_region ?_))
   change wpOpsIn _ _ _ _ _ [0,1,2] _ _
   refine wpOpsIn_value (v:=msgV m) (w':=T) rfl rfl rfl ?_ ?_
   ·rw[show(Fence.wide.inRound (D+1)).round=some (D+1)from rfl,Oper.semAt_some _ _ _ (by intro c;simp)]
    go_simp
   refine wpOpsIn_skip (w':=putAll T H 0 (msgEnc m)) rfl rfl rfl ?_ ?_
   ·rw[show(Fence.wide.inRound (D+1)).round=some (D+1)from rfl,Oper.semAt_some _ _ _ (by intro c;simp),<-putAll_setCells]
    exact store_op _ _ _ _ rfl H _ T HRT.out rfl m rfl rfl
   generalize hPP:putAll T H 0 (msgEnc m)=P2 at kP bP tP ⊢
   have y2:=tP.cell (o:=0) rfl
   have f2:=tP.frozen 0
   refine wpOpsIn_skip (w':=P2.setCell ⟨H+1,0,none⟩ (.bool true)) rfl rfl rfl ?_ ?_
   ·rw[show(Fence.wide.inRound (D+1)).round=some (D+1)from rfl,Oper.semAt_some _ _ _ (by intro c;simp)]
    go_simp
   have kQ:Kept (·= H+1) P2 (P2.setCell ⟨H+1,0,none⟩ (.bool true)):=(Kept.refl _ _).setCell (.inl (by rfl)) _
   have kF:Kept (fun k=>k=H\/k=H+1) T (P2.setCell ⟨H+1,0,none⟩ (.bool true)):=(kP.mono (fun _ _ h=> .inl h)).trans (kQ.mono (fun _ _ h=> .inr h))
   have lF:=kF.heap HLT.out (by omega)
   refine wpIn_ret ⟨lF,HRR.out _ lF (kF.heap HDT.out (by omega)) (bP.kept kQ (by omega)) (tP.setAt 0 _) ((HKT.out.mono (fun _ _ h=> .inl h)).trans (kF.mono (fun _ _ h=>by omega)))⟩
  refine key _ (fun V h1 h2 h3 h5 h6=>⟨.inr ⟨rfl,m,y,HY,World.putObj_heap_same (Array.getElem?_eq_some_iff.1 h1).1,(World.putObj_heap_other (by omega)).trans h2,h3.kept (Kept.putObj (X:=(·= D+1)) _ _ _ rfl) (by omega),h5.kept (Kept.putObj (X:=(·= D+1)) _ _ _ rfl) (by omega)⟩,h6.trans (Kept.putObj _ _ _ (.inl rfl))⟩)
 ·rintro e W' ⟨⟨v,rfl⟩,hj,hq',hc',hk'⟩
  have hOut:∀W9,Kept (fun k=>k=D\/k=D+1\/k=H\/k=H+1) W' W9->OutAt (fun b=>X b\/w.heap.size<=b) W9 q l/\Kept X w W9:=fun W9 k9=>by
   refine⟨⟨V.heap.size,cap,hq'.kept k9 (by omega),.inl hXq,hc'.kept k9 (by omega),.inr (by omega),h4,hcap,hlen⟩,?_⟩
   exact((Kept.of_below gwV (X:=X) (fun b h1 h2=>by omega)).andThen hk' (fun b hb h=>by
    rcases h with(h|h|h)|h|h
    ·omega
    ·omega
    ·omega
    ·subst h;exact hXc
    ·subst h;exact hXq)).andThen k9 (fun b hb h=>by omega)
  have HOUT:=hid_of hOut
  rcases hj with⟨hj0,hl1,hd1,hr1,ht1⟩|⟨x,y,hxy,hl1,hd1,hr1,ht1⟩
  ·have HO:Hid (oldestS l=(msg0,false)):=by show _=_;simp[oldestS,hj0]
   refine⟨⟨_,rfl⟩,.inl ⟨hl1,?_⟩⟩
   have k8:Kept (·= D+1) W' (W'.putObj (D+1) (.loop (rec .exhausted none))):=Kept.putObj _ _ _ rfl
   generalize W'.putObj (D+1) (.loop (rec .exhausted none))=W8 at k8 ⊢
   have hd8:=k8.heap hd1 (by omega)
   have hr8:=hr1.kept k8 (by omega)
   have ht8:=ht1.kept k8 (by omega)
   rename_i hcont
   refine hcont _ _ ?_
   clear hcont
   have kP:Kept (·= H) W8 (putAll W8 H 0 (msgEnc msg0)):=kept_putAll (X:=fun x=>x=H) (.inl rfl) _ _ _ (Kept.refl _ _)
   have bP:=box_putAll (msgEnc msg0) hr8 rfl
   have tP:=ht8.kept kP (by omega)
   refine wpIn_seq (wpIn_region ?_)
   change wpOpsIn _ _ _ _ _ [0,1,2] _ _
   refine wpOpsIn_value (v:=msgV msg0) (w':=W8) rfl rfl rfl ?_ ?_
   ·rw[semAt_wide]
    go_simp
    exact⟨rfl,rfl,rfl,rfl,rfl,rfl,rfl,rfl,rfl,rfl,rfl,rfl,rfl,rfl,rfl⟩
   refine wpOpsIn_skip (w':=putAll W8 H 0 (msgEnc msg0)) rfl rfl rfl ?_ ?_
   ·rw[semAt_wide,<-putAll_setCells]
    exact store_op _ _ _ _ rfl H _ W8 hr8 rfl msg0 rfl rfl
   generalize hPP:putAll W8 H 0 (msgEnc msg0)=P2 at kP bP tP ⊢
   have y2:=tP.cell (o:=0) rfl
   have f2:=tP.frozen 0
   refine wpOpsIn_skip (w':=P2.setCell ⟨H+1,0,none⟩ (.bool false)) rfl rfl rfl ?_ ?_
   ·rw[semAt_wide]
    go_simp
   have kQ:Kept (·= H+1) P2 (P2.setCell ⟨H+1,0,none⟩ (.bool false)):=(Kept.refl _ _).setCell (.inl (by rfl)) _
   have kF:Kept (fun k=>k=H\/k=H+1) W8 (P2.setCell ⟨H+1,0,none⟩ (.bool false)):=(kP.mono (fun _ _ h=> .inl h)).trans (kQ.mono (fun _ _ h=> .inr h))
   have hd9:=kF.heap hd8 (by omega)
   have hr9:BoxAt _ H 124 (msgCells msg0):=bP.kept kQ (by omega)
   have ht9:=tP.setAt 0 (.bool false)
   generalize P2.setCell ⟨H+1,0,none⟩ (.bool false)=W9 at kF hd9 hr9 ht9 ⊢
   have k10:Kept (·= D) W9 (W9.putObj D (.deferred none)):=Kept.putObj _ _ _ rfl
   have hr10:=hr9.kept k10 (by omega)
   have ht10:=ht9.kept k10 (by omega)
   obtain⟨u0,u1,u2,u3,u4,u5,u6,u7,u8,u9,u10,u11,u12,u13,u14⟩:=cells15 hr10
   have uy:=ht10.cell (o:=0) rfl
   refine wpIn_ret ?_
   refine⟨by simp,.inl ⟨_,_,rfl,run_takeDeferred hd9,?_⟩⟩
   refine⟨.tuple #[msgV msg0,.bool false],?_,_,rfl,by rw[HO.out],HOUT.out _ (((k8.mono (fun _ _ h=>by omega)).trans (kF.mono (fun _ _ h=>by omega))).trans (k10.mono (fun _ _ h=>by omega)))⟩
   simp[results,Tryz.f184,go_sem,u0,u1,u2,u3,u4,u5,u6,u7,u8,u9,u10,u11,u12,u13,u14,uy]
  ·have HO:Hid (oldestS l=(x,true)):=by show _=_;simp[oldestS,hxy]
   refine⟨⟨_,rfl⟩,.inr ⟨.ret,hl1,?_⟩⟩
   have k8:Kept (·= D+1) W' (W'.putObj (D+1) (.loop (rec .exhausted (some .ret)))):=Kept.putObj _ _ _ rfl
   generalize W'.putObj (D+1) (.loop (rec .exhausted (some .ret)))=W8 at k8 ⊢
   have hd9:=k8.heap hd1 (by omega)
   have hr9:=hr1.kept k8 (by omega)
   have ht9:=ht1.kept k8 (by omega)
   refine wpIn_ret ?_
   have k10:Kept (·= D) W8 (W8.putObj D (.deferred none)):=Kept.putObj _ _ _ rfl
   have hr10:=hr9.kept k10 (by omega)
   have ht10:=ht9.kept k10 (by omega)
   obtain⟨u0,u1,u2,u3,u4,u5,u6,u7,u8,u9,u10,u11,u12,u13,u14⟩:=cells15 hr10
   have uy:=ht10.cell (o:=0) rfl
   refine⟨by simp,.inl ⟨_,_,rfl,run_takeDeferred hd9,?_⟩⟩
   refine⟨.tuple #[msgV x,.bool true],?_,_,rfl,by rw[HO.out],HOUT.out _ ((k8.mono (fun _ _ h=>by omega)).trans (k10.mono (fun _ _ h=>by omega)))⟩
   simp[results,Tryz.f184,go_sem,u0,u1,u2,u3,u4,u5,u6,u7,u8,u9,u10,u11,u12,u13,u14,uy]
end Go.Proofs.YtfanaanofjhlkaaGreatDoor
