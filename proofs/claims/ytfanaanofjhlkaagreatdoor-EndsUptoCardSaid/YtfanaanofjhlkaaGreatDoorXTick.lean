import Derived.Test.YtfanaanofjhlkaaGreatDoorXAgain
import Derived.Test.YtfanaanofjhlkaaGreatDoorXPass2
import Derived.Stop.RegionWithIn
namespace Go.Proofs.YtfanaanofjhlkaaGreatDoor
open Go Go.RowKit
attribute [local go_sem] Oper.semAt_some
set_option maxHeartbeats 8000000 in
set_option maxRecDepth 100000 in
theorem sendAgain1_calls(F:Nat->Prop)(B Br Bw k:Nat)(s:RunS)(ls:List LinkS)(w:World)(hx:XOK F w B s)(hls:s.links[k]?= some ls)(hkn:∀l∈ls,0<=l.known)(hall:∀l∈ls,l.all.length<=100000000)(hy:s.way.length<=60)(hh:HeldAt w Br Bw B k)(hF:¬F Br/\¬F Bw) :
  Calls Tryz.prog 151 #[.pointer (some ⟨Br,0,none⟩),.pointer (some ⟨Bw,0,none⟩)] w (XGives F w B (ls.foldl againS s,0)):=by
 obtain⟨part,hpF,kv,wv,yv,M,xs,h⟩:=hx
 have hkl:k < xs.length:=by have:=(List.getElem?_eq_some_iff.1 hls).1;have:=h.llen;have:=h.wlen;omega
 obtain⟨gw,wc,hwf,-,hgw⟩:=World.ownsRow.form h.wrow.1 (by omega)
 subst hwf
 have b3:w.cell? ⟨B,4,none⟩=some (.slice (some ⟨gw,0,none⟩) xs.length wc):=h.box.cell (o:=4) rfl
 have r0:=hh.1.cell (o:=0) rfl
 have i0:=hh.2.cell (o:=0) rfl
 have j1:(0:Int)<=(k:Int):=by omega
 have j2:(k:Int) < (xs.length:Int):=by omega
 have hrl:=hh.1.lt
 have hwl:=hh.2.lt
 have pr:part Br=0:=by
  rcases Nat.eq_zero_or_pos (part Br)with h|h
  ·exact h
  ·exact absurd (hpF Br (by omega)) hF.1
 have pw:part Bw=0:=by
  rcases Nat.eq_zero_or_pos (part Bw)with h|h
  ·exact h
  ·exact absurd (hpF Bw (by omega)) hF.2
 have HH:=hid_of h
 have HHE:=hid_of hh
 clear h hh
 refine(callsIn_wide (n:=6)).1 ?_
 refine callsIn_of_wp_marks Tryz.func151 rfl trivial ?_ rfl
 simp only[Tryz.ntmps151,List.size_toArray,List.length_cons,List.length_nil,Nat.reduceAdd,Nat.reduceSub,Array.replicate_succ,Array.replicate_zero,List.push_toArray,List.append_toArray,List.nil_append,List.cons_append]
 gi_wp2
 refine wpIn_wide.2 ?_
 go_still_tail 6,(by kernel_rfl)
 go_wp2_with (go_at_call 152;refine(again_calls gw (k*8) _).mono ?_;rintro e w1 ⟨rfl,hw1⟩;have HW1:=hid_of hw1;clear hw1)
 refine wpIn_block ?_
 refine range_lawG (n:=6) rfl (enters_of Tryz.func183 (by kernel_rfl) rfl) (fun rec hyield=> ?_)
 have bq:BoxAt w1 w.heap.size 213 #[.pointer (some ⟨gw,k*8,none⟩)]:=by rw[HW1.out];exact BoxAt.new w.drew _ _
 have g1:Below w.heap.size w w1:=by rw[HW1.out];exact((Below.refl _ _).drew).alloc (by simp) _
 have s1:w1.heap.size=w.heap.size+1:=by rw[HW1.out];simp
 obtain⟨V,hV⟩:∃V,(w1.alloc (.deferred (some []))).alloc (.loop (rec .ready none))=V:=⟨_,rfl⟩
 have gV:Below w1.heap.size w1 V:=by rw[<-hV];exact((Below.refl _ _).alloc (Nat.le_refl _) _).alloc (by simp) _
 have sV:V.heap.size=w1.heap.size+2:=by rw[<-hV];simp
 have lV:V.heap[w1.heap.size+1]?= some (.loop (rec .ready none)):=by
  have h:=World.alloc_heap_new (w1.alloc (.deferred (some []))) (.loop (rec .ready none))
  rw[World.size_alloc]at h;rw[<-hV];exact h
 have dV:V.heap[w1.heap.size]?= some (.deferred (some [])):=by
  rw[<-hV];exact(Below.heap_alloc _ _ _ (by simp)).trans (World.alloc_heap_new w1 _)
 rw[hV]
 obtain⟨D,hD⟩:∃D,w1.heap.size=D:=⟨_,rfl⟩
 rw[hD]at hyield lV dV gV sV s1 ⊢
 have gwV:Below w.heap.size w V:=g1.trans (gV.mono (by omega))
 obtain⟨hV0,hmV⟩:=HH.out.later gwV
 have bqV:=bq.below (by rw[hD];exact gV) bq.lt
 have rV:=HHE.out.1.below gwV hrl
 have iV:=HHE.out.2.below gwV hwl
 refine(again1_calls (6 - 1) (D+1) k w.heap.size (ext w part 0) V B M s kv yv gw wc xs ls (fun b=>b=D\/b=D+1\/b=w.heap.size\/b=Br)
  (fun A=>A.heap[D+1]?= some (.loop (rec .ready none))/\A.heap[D]?= some (.deferred (some []))/\BoxAt A Br 36 #[.pointer (some ⟨B,0,none⟩)])
  hV0 hls hkl hkn hall hy (fun b hb=>by
   rcases hb with rfl|rfl|rfl|rfl
   ·exact⟨by omega,ext_new (by omega)⟩
   ·exact⟨by omega,ext_new (by omega)⟩
   ·exact⟨by omega,ext_new (by omega)⟩
   ·exact⟨by have:=gwV.size;omega,(ext_old hrl).trans pr⟩)
  (fun A A' h hk=>⟨hk.heap h.1 (fun h=>h (by omega)),hk.heap h.2.1 (fun h=>h (by omega)),h.2.2.kept hk (fun h=>h (by omega))⟩)
  ⟨lV,dV,rV⟩ bqV (by omega) ?yields (by omega)).mono ?_
 case yields=>
  rintro s' part' yv' m W1 h1 hm1 ⟨hl1,hd1,hr1⟩ hw60
  have key:∀R:Ending->World->Prop,(∀V2 part2 yv2,V2.heap[D+1]?= some (.loop (rec .busy none))->V2.heap[D]?= some (.deferred (some []))->BoxAt V2 Br 36 #[.pointer (some ⟨B,0,none⟩)]->XAtO part2 V2 B (wayS s' m) kv (.slice (some ⟨gw,0,none⟩) xs.length wc) yv2 M xs->Kept (fun b=>ext w part 0 b≠0\/b=D+1) V V2->(∀b,b < V.heap.size->part2 b≠0->ext w part 0 b≠0)->(∀b,b < V.heap.size->200<=ext w part 0 b->part2 b=ext w part 0 b/\V2.heap[b]?= V.heap[b]?)->Kept (fun b=>(b=D\/b=D+1\/b=w.heap.size\/b=Br)->b=D+1) W1 V2->R (.returned (.bool true)) (V2.putObj (D+1) (.loop (rec .ready none))))->YieldAt Fence.wide (6 - 1 - 1) Tryz.prog (D+1) #[msgV m] W1 R:=fun R hR=>by
   have HRR:=hid_of hR
   have HX1:=hid_of h1
   have HM1:=hid_of hm1
   have HL1:=hid_of hl1
   have HD1:=hid_of hd1
   have HR1:=hid_of hr1
   have HPZ:Hid (∀b,b=D\/b=D+1\/b=w.heap.size\/b=Br->part' b=0):=fun b hb=>by
    rcases Nat.eq_zero_or_pos (part' b)with h|h
    ·exact h
    ·have h2:b < V.heap.size:=by have:=gwV.size;rcases hb with rfl|rfl|rfl|rfl<;>omega
     have h3:=hm1.old b h2 (by omega)
     rcases hb with rfl|rfl|rfl|rfl
     ·exact absurd (ext_new (by omega)) h3
     ·exact absurd (ext_new (by omega)) h3
     ·exact absurd (ext_new (by omega)) h3
     ·exact absurd ((ext_old hrl).trans pr) h3
   refine hyield _ _ W1 _ hl1 rfl (fun K hK=> ?_)
   have hWl:D+1 < W1.heap.size:=(Array.getElem?_eq_some_iff.1 hl1).1
   clear hl1 hd1 hr1 h1 hm1 hyield lV dV rV iV bqV bq hV0 hmV hR hls hkn hall hy hkl hpF hF b3 r0 i0 j1 j2
   gi_wp2
   obtain⟨U,hU⟩:∃U,W1.alloc (Obj.cells (msgCells m) 124)=U:=⟨_,rfl⟩
   have gU:Below W1.heap.size W1 U:=by rw[<-hU];exact(Below.refl _ _).alloc (Nat.le_refl _) _
   have bU:BoxAt U W1.heap.size 124 (msgCells m):=by rw[<-hU];exact BoxAt.new W1 _ _
   rw[show W1.alloc (Obj.cells (msgCells m) 124)=U from hU]
   have lU:=(gU.block (D+1) hWl).trans HL1.out
   refine hK _ _ lU ?_
   clear hK K hU
   obtain⟨T,hT⟩:∃T,U.putObj (D+1) (.loop (rec .busy none))=T:=⟨_,rfl⟩
   have hDl:=(Array.getElem?_eq_some_iff.1 lU).1
   have kT:Kept (·= D+1) U T:=by rw[<-hT];exact Kept.putObj _ _ _ rfl
   have lT:T.heap[D+1]?= some (.loop (rec .busy none)):=by rw[<-hT];exact World.putObj_heap_same hDl
   have kWT:Kept (·= D+1) W1 T:=(Kept.of_below gU (fun b h1 h2=>absurd h1 (by omega))).trans kT
   have bT:=bU.kept kT (by omega)
   have rT:=HR1.out.kept kWT (by have:=HPZ.out Br (by omega);omega)
   have dT:=kWT.heap HD1.out (by omega)
   have hXT:XAtO (ext W1 part' 0) T B s' kv (.slice (some ⟨gw,0,none⟩) xs.length wc) yv' M xs:=HX1.out.aside kWT (fun g _ e=>HPZ.out g (by omega))
   rw[hT]
   have hVT:Kept (fun b=>ext w part 0 b≠0\/b=D+1) V T:=(HM1.out.kept.mono (fun _ _ h=> .inl h)).trans (kWT.mono (fun _ _ h=> .inr h))
   have HPUT:Hid (∀(U9:World) (bb:Nat),U9=T.drew.alloc (Obj.cells (msgCells m) 124)->bb=T.heap.size->Calls Tryz.prog 153 #[.pointer (some ⟨B,5,none⟩),.slice (some ⟨bb,0,none⟩) 1 1] U9 fun e w'=>∃v,e= .returned v/\(v= .tuple #[]/\R (.returned (.bool true)) (w'.putObj (D+1) (.loop (rec .ready none)))/\w'.heap[D+1]?= some (.loop (rec .busy none)))):=fun U9 bb hU9 hbb=>by
    subst hU9 hbb
    obtain⟨h9,hm9⟩:=hXT.later (((Below.refl T.heap.size T).drew).alloc (by simp) (Obj.cells (msgCells m) 124))
    refine(put_x m T.heap.size h9 (by omega) (BoxAt.new T.drew _ _)).mono ?_
    rintro e w' ⟨v,rfl,rfl,part5,yv5,h5,hm5,-⟩
    have hm95:=hm9.trans hm5
    have p0:∀b,b < W1.heap.size->part' b=0->ext W1 part' 0 b=0:=fun b hb h=>(ext_old hb).trans h
    have lF:w'.heap[D+1]?= some (.loop (rec .busy none)):=hm95.kept.heap lT (by rw[p0 _ hWl (HPZ.out _ (by omega))];simp)
    have hW1T:=kWT.size
    have hrW:=(HR1.out).lt
    have hVW:=HM1.out.kept.size
    refine⟨_,rfl,rfl,HRR.out w' part5 yv5 lF ?_ ?_ h5 ?_ ?_ ?_ ?_,lF⟩
    ·exact hm95.kept.heap dT (by rw[p0 D (by omega) (HPZ.out D (by omega))];simp)
    ·exact rT.kept hm95.kept (by rw[p0 Br hrW (HPZ.out Br (by omega))];simp)
    ·refine hVT.andThen hm95.kept (fun b hb h=> ?_)
     have h1:ext W1 part' 0 b=part' b:=ext_old (by omega)
     exact .inl (HM1.out.old b hb (by rw[<-h1];exact h))
    ·intro b hb h
     have h2:=hm95.old b (by omega) h
     have h1:ext W1 part' 0 b=part' b:=ext_old (by omega)
     exact HM1.out.old b hb (by rw[<-h1];exact h2)
    ·intro b hb h
     obtain⟨e1,e2⟩:=HM1.out.ends b hb h
     have hbW:b < W1.heap.size:=by omega
     have h1:ext W1 part' 0 b=part' b:=ext_old hbW
     have hbD:b≠D+1:=fun e=>by
      have:=HPZ.out b (.inr (.inl e))
      omega
     obtain⟨e3,e4⟩:=hm95.ends b (by omega) (by omega)
     exact⟨by omega,e4.trans ((kWT.block b hbW hbD).trans e2)⟩
    ·refine(kWT.mono (Y:=fun b=>(b=D\/b=D+1\/b=w.heap.size\/b=Br)->b=D+1) (fun b _ e _=>e)).andThen hm95.kept (fun b hb h hz=> ?_)
     exact absurd ((ext_old hb).trans (HPZ.out b hz)) h
   have q0:=rT.cell (o:=0) rfl
   have hrT:=rT.lt
   have hrT':Br≠T.heap.size:=by omega
   have q1:∀o,(T.drew.alloc o).cell? ⟨Br,0,none⟩=some (.pointer (some ⟨B,0,none⟩)):=fun o=>cell_alloc (w:=T.drew) o q0
   obtain⟨Bx,hBx⟩:∃Bx,W1.heap.size=Bx:=⟨_,rfl⟩
   rw[hBx]at bT ⊢
   obtain⟨m0,m1,m2,m3,m4,m5,m6,m7,m8,m9,m10,m11,m12,m13,m14⟩:=cells15 bT
   have hfP:Fence.wide.fn 153:=trivial
   clear bT rT dT lT kT kWT hXT hVT hT bU lU gU hDl HX1 HM1 HL1 HD1 HR1 HPZ HRR hWl hBx gwV gV g1 sV s1 hD hV hrl hwl pr pw HH HHE HW1
   gi_wp2
   gi_region_with (first
    |((try refine⟨fun h=>(by cases h),?_⟩);gi_at_call 153;refine(CallsIn.inRound (D+1) (callsIn_wide.2 (HPUT.out _ _ rfl rfl))).mono ?_;rintro e w9 ⟨v9,rfl,rfl,hres9,hl9⟩))
   all_goals
    gi_wp2
    exact⟨hl9,hres9⟩
  refine key _ (fun V2 part2 yv2 h2 h3 h4 h5 h6 h6' h6e h7=> ?_)
  have hV2:=(Array.getElem?_eq_some_iff.1 h2).1
  have kP:Kept (·= D+1) V2 (V2.putObj (D+1) (.loop (rec .ready none))):=Kept.putObj _ _ _ rfl
  have pD:part2 (D+1)=0:=by
   rcases Nat.eq_zero_or_pos (part2 (D+1))with h|h
   ·exact h
   ·exact absurd (ext_new (by omega)) (h6' (D+1) (by omega) (by omega))
  have lP:(V2.putObj (D+1) (.loop (rec .ready none))).heap[D+1]?= some (.loop (rec .ready none)):=World.putObj_heap_same hV2
  refine⟨rfl,ext V2 part2 0,yv2,h5.aside kP (fun g _ e=>by rw[e];exact pD),⟨⟨kP.os.trans h6.os,kP.tape.trans h6.tape,kP.output.trans h6.output,Nat.le_trans h6.size kP.size,fun b hb hne=> ?_⟩,fun b hb h=> ?_,fun b hb h=> ?_⟩,h7.trans (kP.mono (fun b _ e _=>e)),lP,kP.heap h3 (by omega),h4.kept kP (by have h8:Br < w.heap.size:=hrl;omega)⟩
  ·by_cases e:b=D+1
   ·rw[e,lP];exact lV.symm
   ·exact(kP.block b (Nat.lt_of_lt_of_le hb h6.size) e).trans (h6.block b hb (fun h=>by rcases h with h|h;exact hne h;exact e h))
  ·have h1:ext V2 part2 0 b=part2 b:=ext_old (Nat.lt_of_lt_of_le hb h6.size)
   exact h6' b hb (by rw[<-h1];exact h)
  ·obtain⟨e1,e2⟩:=h6e b hb h
   have hb2:b < V2.heap.size:=Nat.lt_of_lt_of_le hb h6.size
   exact⟨(ext_old hb2).trans e1,(kP.block b hb2 (fun e=>by rw[e]at e1 h;omega)).trans e2⟩
 ·rintro e W' ⟨⟨v,rfl⟩,⟨part2,yv2,h5,hm5⟩,hl1,hd1,hr1⟩
  refine⟨⟨_,rfl⟩,.inl ⟨hl1,?_⟩⟩
  have k8:Kept (·= D+1) W' (W'.putObj (D+1) (.loop (rec .exhausted none))):=Kept.putObj _ _ _ rfl
  have hd8:=k8.heap hd1 (by omega)
  have k9:Kept (·= D) (W'.putObj (D+1) (.loop (rec .exhausted none))) ((W'.putObj (D+1) (.loop (rec .exhausted none))).putObj D (.deferred none)):=Kept.putObj _ _ _ rfl
  have kk:Kept (fun b=>b=D\/b=D+1) W' ((W'.putObj (D+1) (.loop (rec .exhausted none))).putObj D (.deferred none)):=(k8.mono (fun _ _ h=> .inr h)).trans (k9.mono (fun _ _ h=> .inl h))
  have pz:∀b,b=D\/b=D+1->part2 b=0:=fun b hb=>by
   rcases Nat.eq_zero_or_pos (part2 b)with h|h
   ·exact h
   ·exact absurd (ext_new (by omega)) (hm5.old b (by omega) (by omega))
  have h6:=h5.aside kk (fun g _ e=>pz g e)
  have hWV:=hm5.kept.size
  have hmv:=hmV.trans hm5
  have hres:XGives F w B (ls.foldl againS s,0) (.returned (.int .i64 0)) ((W'.putObj (D+1) (.loop (rec .exhausted none))).putObj D (.deferred none)):=by
   refine⟨rfl,⟨_,fun b hb=> ?_,kv,_,yv2,M,xs,h6⟩,(hmv.kept.mono (fun b _ h=>hpF b h)).andThen kk (fun b hb h=>by omega)⟩
   rcases Nat.lt_or_ge b w.heap.size with hl|hl
   ·refine .inl (hpF b (hmv.old b hl ?_))
    have h1:ext W' part2 0 b=part2 b:=ext_old (by have:=gwV.size;omega)
    rw[<-h1];exact hb
   ·exact .inr hl
  have HRES:=hid_of hres
  generalize W'.putObj (D+1) (.loop (rec .exhausted none))=W8 at hd8 HRES ⊢
  rename_i hcont
  refine hcont _ _ ?_
  clear hcont h5 hm5 hl1 hd1 hr1 k8 k9 kk pz h6 hmv hres hyield lV dV rV iV bqV bq hV0 hmV s1 sV hD gV gwV hWV
  gi_wp2
  refine⟨by simp,.inl ⟨_,_,rfl,run_takeDeferred hd8,?_⟩⟩
  exact⟨.int .i64 0,by simp[results,Tryz.f151,go_sem],HRES.out⟩
end Go.Proofs.YtfanaanofjhlkaaGreatDoor
