import Derived.Test.YtfanaanofjhlkaaGreatDoorList
namespace Go.Proofs.YtfanaanofjhlkaaGreatDoor
open Go Go.RowKit Go.Shelf
attribute [local go_sem] Oper.semAt_some
def Good(ks:List KindS)(t:TaskS):Prop:=0<=t.kind/\t.kind < ks.length/\0<=t.arg/\(t.id.size:Int)+t.arg<=12
theorem kidId_size(id:ByteArray)(i:Nat):(kidId id i).size=id.size+1:=by
 unfold kidId;rw[ByteArray.size_append];rfl
theorem childrenFrom_mem{id:ByteArray}{x:Int}{c:TaskS}:∀{l:List KidS} {i:Nat},c∈childrenFrom id x i l->∃d∈l,∃j,c=⟨kidId id j,d.kind,x - d.less⟩/\d.less<=x
 |[],_,h=>by simp[childrenFrom]at h
 |d :: r,i,h=>by
  unfold childrenFrom at h
  split at h
  ·rename_i hd
   rcases List.mem_cons.1 h with rfl|h
   ·exact⟨d,by simp,i,rfl,hd⟩
   ·obtain⟨e,he,j,hc,hx⟩:=childrenFrom_mem h;exact⟨e,List.mem_cons_of_mem _ he,j,hc,hx⟩
  ·obtain⟨e,he,j,hc,hx⟩:=childrenFrom_mem h;exact⟨e,List.mem_cons_of_mem _ he,j,hc,hx⟩
theorem good_child{ks:List KindS}{kind arg:Int}{t c:TaskS}(hp:progB ks kind arg=true)(hG:Good ks t)(hc:c∈children ks t):Good ks c/\c.arg+1<=t.arg:=by
 obtain⟨h0,h1,h2,h3⟩:=hG
 obtain⟨j,hj⟩:=Int.eq_ofNat_of_zero_le h0
 have hjl:j < ks.length:=by omega
 have hk:kindAt ks t.kind=ks[j]:=by simp[kindAt,hj,hjl]
 obtain⟨d,hd,i,rfl,hx⟩:=childrenFrom_mem hc
 rw[hk]at hd
 have hkb:kindB ks.length ks[j]=true:=by
  simp[progB]at hp
  exact hp.1.1.2 _ (List.getElem_mem hjl)
 simp[kindB,kidB,numB,rangeB]at hkb
 have:=hkb.2 d hd
 refine⟨⟨by dsimp only;omega,by dsimp only;omega,by dsimp only;omega,?_⟩,by dsimp only;omega⟩
 dsimp only
 rw[kidId_size];omega
theorem flatMap_prefix{l L:List TaskS}(D:TaskS->List TaskS)(t:TaskS)(h:l <+: L):(t :: l.flatMap D) <+: (t :: L.flatMap D):=by
 obtain⟨r,rfl⟩:=h
 exact⟨r.flatMap D,by simp⟩
section
variable (ks:List KindS) (kind arg:Int) (a:Option Addr) (cap l B:Nat) (X ok:Nat->Prop) (J Jx:List TaskS->World->Prop)
def Rounds:Prop:=∀m pre t W1,Good ks t->J pre W1->B<=W1.heap.size->YieldAt Fence.wide m Tryz.prog l #[taskV t] W1 fun e W'=>
 (e= .returned (.bool true)/\J (pre++ [t]) W'/\Kept X W1 W')\/(e= .returned (.bool false)/\Jx (pre++ [t]) W'/\Kept (·< B) W1 W')
def WalkSays(t:TaskS)(T:List TaskS):Prop:=∀n pre W,KindsAt ok W (.slice a ks.length cap) ks->J pre W->B<=W.heap.size->
 CallsIn Fence.wide n Tryz.prog 145 #[.agg #[.slice a ks.length cap,.int .i64 kind,.int .i64 arg],taskV t,.func (.yield l) #[] #[]] W fun e W'=>
  (e= .returned (.bool true)/\J (pre++T) W'/\Kept X W W')\/(e= .returned (.bool false)/\∃q,q <+: T/\Jx (pre++q) W'/\Kept (·< B) W W')
variable {ks kind arg a cap l B X ok J Jx}
set_option maxHeartbeats 1000000 in
set_option maxRecDepth 100000 in
theorem walk_step(hp:progB ks kind arg=true)(hX:∀k,X k->k < B)(hok:∀b,ok b->¬X b)
  (hJ:∀s A A',J s A->Below B A A'->J s A') (hJx:∀s A A',Jx s A->Below B A A'->Jx s A') (hY:Rounds ks l B X J Jx) (t:TaskS) (hG:Good ks t) (D:TaskS->List TaskS)
  (ih:∀c,c∈children ks t->WalkSays ks kind arg a cap l B X ok J Jx c (D c)):WalkSays ks kind arg a cap l B X ok J Jx t (t :: (children ks t).flatMap D):=by
 intro n pre W hk h0 hB
 obtain⟨L,hL⟩:∃L,children ks t=L:=⟨_,rfl⟩
 rw[hL]at ih ⊢
 obtain⟨id,k,x⟩:=t
 have nX:∀k,B<=k->¬X k:=fun k h hx=>Nat.not_lt_of_le h (hX k hx)
 refine callsIn_of_wp_marks Tryz.func145 rfl trivial ?_ rfl
 simp only[Tryz.ntmps145,taskV,List.size_toArray,List.length_cons,List.length_nil,Nat.reduceAdd,Nat.reduceSub,Array.replicate_succ,Array.replicate_zero,List.push_toArray,List.append_toArray,List.nil_append,List.cons_append]
 gi_wp2
 obtain⟨V,hV⟩:∃V,((((W.alloc (Obj.cells #[Value.slice a ks.length cap,Value.int IntKind.i64 kind,Value.int IntKind.i64 arg] 41)).alloc (Obj.cells #[Value.string id,Value.int IntKind.i64 k,Value.int IntKind.i64 x] 62)).alloc (Obj.cells #[Value.func (Fn.yield l) #[] #[]] 192)).alloc (Obj.cells #[Value.bool false] 4))=V:=⟨_,rfl⟩
 have hbV:Below W.heap.size W V:=by
  rw[<-hV];exact((((Below.refl _ _).alloc (Nat.le_refl _) _).alloc (by simp) _).alloc (by simp;omega) _).alloc (by simp;omega) _
 have b3:BoxAt V W.heap.size 41 #[Value.slice a ks.length cap,Value.int IntKind.i64 kind,Value.int IntKind.i64 arg]:=by
  rw[<-hV];exact(((BoxAt.new W _ _).alloc _).alloc _).alloc _
 have b4:BoxAt V (W.heap.size+1) 62 #[Value.string id,Value.int IntKind.i64 k,Value.int IntKind.i64 x]:=by
  rw[<-hV];have:=((BoxAt.new (W.alloc (Obj.cells #[Value.slice a ks.length cap,Value.int IntKind.i64 kind,Value.int IntKind.i64 arg] 41)) 62 #[Value.string id,Value.int IntKind.i64 k,Value.int IntKind.i64 x]).alloc (Obj.cells #[Value.func (Fn.yield l) #[] #[]] 192)).alloc (Obj.cells #[Value.bool false] 4)
  simpa only[World.size_alloc]using this
 have b5:BoxAt V (W.heap.size+1+1) 192 #[Value.func (Fn.yield l) #[] #[]]:=by
  rw[<-hV];have:=(BoxAt.new ((W.alloc (Obj.cells #[Value.slice a ks.length cap,Value.int IntKind.i64 kind,Value.int IntKind.i64 arg] 41)).alloc (Obj.cells #[Value.string id,Value.int IntKind.i64 k,Value.int IntKind.i64 x] 62)) 192 #[Value.func (Fn.yield l) #[] #[]]).alloc (Obj.cells #[Value.bool false] 4)
  simpa only[World.size_alloc]using this
 have b6:BoxAt V (W.heap.size+1+1+1) 4 #[Value.bool false]:=by
  rw[<-hV];have:=BoxAt.new (((W.alloc (Obj.cells #[Value.slice a ks.length cap,Value.int IntKind.i64 kind,Value.int IntKind.i64 arg] 41)).alloc (Obj.cells #[Value.string id,Value.int IntKind.i64 k,Value.int IntKind.i64 x] 62)).alloc (Obj.cells #[Value.func (Fn.yield l) #[] #[]] 192)) 4 #[Value.bool false]
  simpa only[World.size_alloc]using this
 rw[hV]
 clear hV
 have hsV:=hbV.size
 obtain⟨fn,tmps,assign,body,hy,hR⟩:=hY (n - 1) pre ⟨id,k,x⟩ V hG (hJ _ _ _ h0 (hbV.mono hB)) (Nat.le_trans hB hsV)
 dsimp only[taskV]at hy
 rw[hy]
 gi_wp2
 refine⟨fun h=>(by cases h),?_⟩
 refine hR.mono ?_
 rintro e W1 (⟨rfl,hJ1,hk1⟩|⟨rfl,hJx1,hk1⟩)
 case inr=>
  have d6:=b6.kept hk1 (by omega)
  have c6:=d6.cell (o:=0) rfl
  have g6:=d6.frozen 0
  gi_wp2
  refine⟨.bool false,?_,.inr ⟨rfl,[⟨id,k,x⟩],⟨L.flatMap D,by simp⟩,hJx _ _ _ hJx1 (((Below.refl _ W1)).setCell (p:=⟨W.heap.size+1+1+1,0,none⟩) (by simp;omega) _),?_⟩⟩
  ·have c7:=(BoxAt.cell (o:=0) (show BoxAt (W1.setCell ⟨W.heap.size+1+1+1,0,none⟩ (.bool false)) _ _ #[.bool false]from Boxed.set (.bool false) d6) rfl)
   simp[results,Tryz.f145,go_sem,c7]
  ·exact((Kept.of_below hbV (fun k h h'=>absurd h (by omega))).trans hk1).setCell (.inr (by simp;omega)) _
 case inl=>
  clear hy hR
  have e3:=b3.kept hk1 (nX _ (by omega))
  have e4:=b4.kept hk1 (nX _ (by omega))
  have e5:=b5.kept hk1 (nX _ (by omega))
  have e6:=b6.kept hk1 (nX _ (by omega))
  have q0:=e3.cell (o:=0) rfl
  have q1:=e3.cell (o:=1) rfl
  have q2:=e3.cell (o:=2) rfl
  have r0:=e4.cell (o:=0) rfl
  have r1:=e4.cell (o:=1) rfl
  have r2:=e4.cell (o:=2) rfl
  have hfC:Fence.wide.fn 115:=trivial
  gi_wp2_with ((try refine⟨fun h=>(by cases h),?_⟩);gi_at_call 115;refine(children_in Fence.wide (n - 1) trivial rfl _ _ _ _ _ _ _ _ _).mono ?_;rintro e w' ⟨rfl,rfl⟩)
  obtain⟨Z,hZ⟩:∃Z,((W1.alloc (Obj.cells #[Value.slice a ks.length cap,Value.int IntKind.i64 kind,Value.int IntKind.i64 arg] 41)).alloc (Obj.cells #[Value.string id,Value.int IntKind.i64 k,Value.int IntKind.i64 x] 62))=Z:=⟨_,rfl⟩
  have sZ:Z.heap.size=W1.heap.size+2:=by rw[<-hZ];simp
  have hbZ:Below W1.heap.size W1 Z:=by
   rw[<-hZ];exact((Below.refl _ _).alloc (Nat.le_refl _) _).alloc (by simp) _
  have zp:BoxAt Z W1.heap.size 41 #[Value.slice a ks.length cap,Value.int IntKind.i64 kind,Value.int IntKind.i64 arg]:=by
   rw[<-hZ];exact(BoxAt.new W1 _ _).alloc _
  have zt:BoxAt Z (W1.heap.size+1) 62 #[Value.string id,Value.int IntKind.i64 k,Value.int IntKind.i64 x]:=by
   rw[<-hZ];have:=BoxAt.new (W1.alloc (Obj.cells #[Value.slice a ks.length cap,Value.int IntKind.i64 kind,Value.int IntKind.i64 arg] 41)) 62 #[Value.string id,Value.int IntKind.i64 k,Value.int IntKind.i64 x]
   simpa only[World.size_alloc]using this
  rw[hZ]
  clear hZ q0 q1 q2 r0 r1 r2
  have hs1:=hk1.size
  have z3:=e3.below hbZ (by have:=e3.lt;omega)
  have z4:=e4.below hbZ (by have:=e4.lt;omega)
  have z5:=e5.below hbZ (by have:=e5.lt;omega)
  have z6:=e6.below hbZ (by have:=e6.lt;omega)
  have l6:=e6.lt
  have hkZ:Kept X W Z:=((Kept.of_below hbV (fun k h h'=>absurd h (by omega))).trans hk1).trans (Kept.of_below hbZ (fun k h h'=>absurd h (by omega)))
  have kindsZ:KindsAt ok Z (.slice a ks.length cap) ks:=hk.kept hkZ hok
  obtain⟨g0,g1,g2,g3⟩:=hG
  simp only at g0 g1 g2 g3
  have HB:Hid (∀{A A':World},Below Z.heap.size A A'->Below B A A'):=fun h=>h.mono (by omega)
  have hseq:∀Y,Below Z.heap.size Z Y->Y.heap.size=Z.heap.size+2->SeqX Fence.wide (n - 1) Tryz.prog 170 #[.pointer (some ⟨W1.heap.size,0,none⟩),.pointer (some ⟨W1.heap.size+1,0,none⟩)] (fun c:Of L=>#[taskV c.1]) (fun k=>X k\/k=Z.heap.size+1)
    (fun xs=>xs.map Subtype.val=L) (fun pre=>pre.map Subtype.val <+: L) Y:=fun Y hbY sY=>by
   refine children1_seq (n - 1) W1.heap.size (W1.heap.size+1) (fun k=>X k\/k=Z.heap.size+1) (fun b=>ok b/\b < Z.heap.size) a cap kind arg ks ⟨id,k,x⟩ L hL Y (zp.below hbY (by omega)) (zt.below hbY (by omega))
    (kindsZ.below.kept (Kept.of_below (X:=fun k=>Z.heap.size<=k) hbY (fun _ _ h=>h)) (fun b h=>by omega)) ?_ ?_ hp g0 g1 g2 (by dsimp only;omega) (by dsimp only;omega)
   ·rintro b h (h'|h')
    ·exact hok b h.1 h'
    ·omega
   ·rintro(h'|h')
    ·exact nX _ (by omega) h'
    ·omega
  refine range_law (F:=Fence.wide) (n:=n) (w:=Z) rfl (fun h=>(by cases h)) (gf:=170) (lb:=#[.pointer (some ⟨W1.heap.size,0,none⟩),.pointer (some ⟨W1.heap.size+1,0,none⟩)]) (by rfl) trivial (enters_of Tryz.func170 (by kernel_rfl) rfl)
   X (fun k h=>by have:=hX k h;omega) hseq
   (fun _=>by rfl)
   (fun pre' U=>J (pre++⟨id,k,x⟩ :: (pre'.map Subtype.val).flatMap D) U/\Kept X Z U)
   (fun c pre' U=>c= .ret/\(∃q,q <+: (⟨id,k,x⟩ :: (pre'.map Subtype.val).flatMap D)/\Jx (pre++q) U)/\Kept (·< B) W U/\BoxAt U (W.heap.size+1+1+1) 4 #[.bool false])
   (fun s A A' h hb=>⟨hJ _ _ _ h.1 (HB.out hb),h.2.later hb (Nat.le_refl _)⟩)
   (fun c s A A' h hb=>⟨h.1,h.2.1.imp fun q h=>⟨h.1,hJx _ _ _ h.2 (HB.out hb)⟩,h.2.2.1.later hb (by omega),h.2.2.2.below hb (by omega)⟩)
   ⟨by simpa using hJ _ _ _ hJ1 (hbZ.mono (by omega)),Kept.refl _ _⟩
   (fun pre' c a' U=>∃Bx,Z.heap.size+2<=Bx/\BoxAt U Bx 62 #[.string c.1.id,.int .i64 c.1.kind,.int .i64 c.1.arg]/\a'=Act.mk #[Value.agg #[Value.slice a ks.length cap,Value.int IntKind.i64 kind,Value.int IntKind.i64 arg],
     Value.agg #[Value.string id,Value.int IntKind.i64 k,Value.int IntKind.i64 x],
     Value.func (Fn.yield l) #[] #[],Value.pointer (some {block:=W.heap.size,off:=0}),
     Value.pointer (some {block:=W.heap.size+1,off:=0}),
     Value.pointer (some {block:=W.heap.size+1+1,off:=0}),
     Value.pointer (some {block:=W.heap.size+1+1+1,off:=0}),Value.pointer (some {block:=Bx,off:=0}),Value.func (Fn.yield l) #[] #[],
     Value.agg #[Value.string id,Value.int IntKind.i64 k,Value.int IntKind.i64 x],Value.bool true,
     Value.bool false,
     Value.agg #[Value.slice a ks.length cap,Value.int IntKind.i64 kind,Value.int IntKind.i64 arg],
     Value.agg #[Value.string id,Value.int IntKind.i64 k,Value.int IntKind.i64 x],
     Value.func (Fn.func 170) #[]
      #[Value.pointer (some {block:=W1.heap.size,off:=0}),
       Value.pointer (some {block:=W1.heap.size+1,off:=0})],
     Value.agg #[.string c.1.id,.int .i64 c.1.kind,.int .i64 c.1.arg],undef,undef,undef,undef,undef] [])
   (fun pre' c a' A A' h hk=>by
    obtain⟨Bx,e1,e2,e3⟩:=h
    exact⟨Bx,e1,e2.kept hk (by omega),e3⟩) ?assign ?body ?done ?stop
  case assign=>
   rintro l' pre' ⟨⟨id',k',x'⟩,hmem⟩ U K ⟨hJU,hkU⟩ hsU hK
   simp only[taskV]
   gi_wp2
   exact hK _ _ (Kept.alloc _ _ _) ⟨hJ _ _ _ hJU (((Below.refl _ U).alloc (Nat.le_refl _) _).mono (by omega)),hkU.trans (Kept.alloc _ _ _)⟩ ⟨U.heap.size,hsU,BoxAt.new U _ _,rfl⟩
  case body=>
   rintro l' pre' ⟨⟨id',k',x'⟩,hmem⟩ a' U ⟨hJU,hkU⟩ ⟨Bx,hBx,bX,rfl⟩ hsU
   simp only at bX
   have u3:=z3.kept hkU (nX _ (by omega))
   have u5:=z5.kept hkU (nX _ (by omega))
   have u6:=z6.kept hkU (nX _ (by omega))
   have q0:=u3.cell (o:=0) rfl
   have q1:=u3.cell (o:=1) rfl
   have q2:=u3.cell (o:=2) rfl
   have q5:=u5.cell (o:=0) rfl
   have r0:=bX.cell (o:=0) rfl
   have r1:=bX.cell (o:=1) rfl
   have r2:=bX.cell (o:=2) rfl
   have hfW:Fence.wide.fn 145:=trivial
   have HI:Hid (∀m,CallsIn Fence.wide m Tryz.prog 145 #[.agg #[.slice a ks.length cap,.int .i64 kind,.int .i64 arg],.agg #[.string id',.int .i64 k',.int .i64 x'],.func (.yield l) #[] #[]] U fun e W'=>
     (e= .returned (.bool true)/\J ((pre++⟨id,k,x⟩ :: (pre'.map Subtype.val).flatMap D)++D ⟨id',k',x'⟩) W'/\Kept X U W')\/(e= .returned (.bool false)/\∃q,q <+: D ⟨id',k',x'⟩/\Jx ((pre++⟨id,k,x⟩ :: (pre'.map Subtype.val).flatMap D)++q) W'/\Kept (·< B) U W'/\W'.cell? ⟨W.heap.size+1+1+1,0,none⟩=some (.bool false)/\W'.frozen? ⟨W.heap.size+1+1+1,0,none⟩=false)):=
    fun m=>(ih ⟨id',k',x'⟩ hmem m _ U (kindsZ.kept hkU hok) hJU (by omega)).mono fun e W' h=>h.elim .inl fun⟨he,q,hq,hj,hk⟩=>
     .inr ⟨he,q,hq,hj,hk,(u6.kept hk (by omega)).cell (o:=0) rfl,(u6.kept hk (by omega)).frozen 0⟩
   gi_wp2_with ((try refine⟨fun h=>(by cases h),?_⟩);gi_at_call 145;refine(CallsIn.inRound l' (HI.out _)).mono ?_;rintro e U1 (⟨rfl,hJ2,hk2⟩|⟨rfl,q,hq,hJx2,hk2,c6,f6⟩))
   ·exact⟨hk2,by simpa[List.append_assoc]using hJ2,hkU.trans hk2⟩
   ·have v6:=u6.kept hk2 (by omega)
    have hsU1:=hk2.size
    have n6:W.heap.size+1+1+1 < Z.heap.size:=z6.lt
    have kU1:Kept (·< B) W U1:=((hkZ.trans hkU).mono (fun k _ h=>hX k h)).trans hk2
    refine⟨(hk2.mono (fun k _ h=>by omega)).setCell (.inl n6) _,rfl,⟨⟨id,k,x⟩ :: ((pre'.map Subtype.val).flatMap D++q),?_,?_⟩,kU1.setCell (.inr (by simp;omega)) _,Boxed.set (.bool false) v6⟩
    ·obtain⟨r,hr⟩:=hq
     exact⟨r,by simp[<-hr]⟩
    ·refine hJx _ _ _ ?_ ((Below.refl _ U1).setCell (p:=⟨W.heap.size+1+1+1,0,none⟩) (by simp;omega) _)
     simpa[List.append_assoc]using hJx2
  case done=>
   rintro Dd xs U hD hS ⟨hJU,hkU⟩ hK
   have u6:=z6.kept hkU (nX _ (by omega))
   have c6:=u6.cell (o:=0) rfl
   have f6:=u6.frozen 0
   have n6:W.heap.size+1+1+1 < Z.heap.size:=z6.lt
   gi_wp2
   have hK':(U.setCell ⟨W.heap.size+1+1+1,0,none⟩ (.bool true)).heap[Dd]?= some (.deferred (some [])):=(Below.heap_setCell U ⟨W.heap.size+1+1+1,0,none⟩ (.bool true) Dd (by simp;omega)).trans hK
   refine⟨by simp,.inl ⟨_,_,rfl,run_takeDeferred hK',?_⟩⟩
   have hkF:Kept (·= Dd) (U.setCell ⟨W.heap.size+1+1+1,0,none⟩ (.bool true)) ((U.setCell ⟨W.heap.size+1+1+1,0,none⟩ (.bool true)).putObj Dd (.deferred none)):=Kept.putObj _ _ _ rfl
   have hc6:=((show BoxAt (U.setCell ⟨W.heap.size+1+1+1,0,none⟩ (.bool true)) _ _ #[.bool true]from Boxed.set (.bool true) u6).kept hkF (by omega)).cell (o:=0) rfl
   have hDs:=(Array.getElem?_eq_some_iff.1 hK).1
   have hbF:Below (W.heap.size+1+1+1) U ((U.setCell ⟨W.heap.size+1+1+1,0,none⟩ (.bool true)).putObj Dd (.deferred none)):=
    ((Below.refl _ U).setCell (p:=⟨W.heap.size+1+1+1,0,none⟩) (by simp) _).trans (hkF.below (by have:=(Array.getElem?_eq_some_iff.1 hK').1;omega) (fun k e=>by omega))
   refine⟨.bool true,?_,.inl ⟨rfl,?_,(hkZ.trans hkU).later hbF (by omega)⟩⟩
   ·simp[results,Tryz.f145,go_sem,hc6]
   ·rw[<-hS];exact hJ _ _ _ hJU (hbF.mono (by omega))
  case stop=>
   rintro Dd c pre' U hD hpre ⟨rfl,⟨q,hq,hJU⟩,hkU,u6⟩ hK
   gi_wp2
   refine⟨by simp,.inl ⟨_,_,rfl,run_takeDeferred hK,?_⟩⟩
   have n6:W.heap.size+1+1+1 < Z.heap.size:=z6.lt
   have hkF:Kept (·= Dd) U (U.putObj Dd (.deferred none)):=Kept.putObj _ _ _ rfl
   have hc6:=(u6.kept hkF (by omega)).cell (o:=0) rfl
   have hbF:Below W.heap.size U (U.putObj Dd (.deferred none)):=hkF.below (by have:=(Array.getElem?_eq_some_iff.1 hK).1;omega) (fun k e=>by omega)
   refine⟨.bool false,?_,.inr ⟨rfl,q,?_,hJx _ _ _ hJU (hbF.mono hB),hkU.later hbF (Nat.le_refl _)⟩⟩
   ·simp[results,Tryz.f145,go_sem,hc6]
   ·refine hq.trans ?_
    exact flatMap_prefix D _ hpre
theorem walk_says(hp:progB ks kind arg=true)(hX:∀k,X k->k < B)(hok:∀b,ok b->¬X b)
  (hJ:∀s A A',J s A->Below B A A'->J s A') (hJx:∀s A A',Jx s A->Below B A A'->Jx s A') (hY:Rounds ks l B X J Jx) :
  ∀(f:Nat) (t:TaskS),Good ks t->t.arg<=f->WalkSays ks kind arg a cap l B X ok J Jx t (tree ks f t)
 |0,t,hG,hf=>by
  have he:children ks t=[]:=by
   refine List.eq_nil_iff_forall_not_mem.2 fun c hc=> ?_
   have h:=good_child hp hG hc
   have h2:=h.1.2.2.1
   omega
  have:=walk_step (a:=a) (cap:=cap) hp hX hok hJ hJx hY t hG (fun _=>[]) (fun c hc=>by rw[he]at hc;cases hc)
  rw[he]at this
  exact this
 |f+1,t,hG,hf=>walk_step hp hX hok hJ hJx hY t hG (tree ks f) fun c hc=>walk_says hp hX hok hJ hJx hY f c (good_child hp hG hc).1 (by have:=(good_child hp hG hc).2;omega)
end
end Go.Proofs.YtfanaanofjhlkaaGreatDoor
namespace Go.Proofs.YtfanaanofjhlkaaGreatDoor
open Go
def idl(t:TaskS):List UInt8:=t.id.data.toList
theorem idl_kid(id:ByteArray)(i:Nat)(k x:Int):idl ⟨kidId id i,k,x⟩=id.data.toList++ [digit i]:=by
 simp[idl,kidId,ByteArray.data_append]
theorem digit_lt{i j:Nat}(h:i < j)(hj:j < 100):digit i < digit j:=by
 unfold digit
 rw[UInt8.lt_iff_toNat_lt]
 simp only[UInt8.toNat_ofNat']
 omega
theorem lex_self(p r:List UInt8)(d:UInt8):p < p++d :: r:=by
 induction p with
 |nil=>exact List.Lex.nil
 |cons a p ih=>exact List.Lex.cons ih
theorem lex_split(p r s:List UInt8){d e:UInt8}(h:d < e):p++d :: r < p++e :: s:=by
 induction p with
 |nil=>exact List.Lex.rel h
 |cons a p ih=>exact List.Lex.cons ih
theorem childrenFrom_order(id:ByteArray)(x:Int):∀(l:List KidS) (i:Nat),i+l.length < 100->
  (childrenFrom id x i l).Pairwise (fun c d=>∃a b,a < b/\b < 100/\c.id=kidId id a/\d.id=kidId id b)/\∀c∈childrenFrom id x i l,∃a,i<=a/\a < 100/\c.id=kidId id a
 |[],_,_=>by simp[childrenFrom]
 |k :: r,i,h=>by
  simp only[List.length_cons]at h
  obtain⟨h1,h2⟩:=childrenFrom_order id x r (i+1) (by omega)
  unfold childrenFrom
  split
  ·refine⟨List.pairwise_cons.2 ⟨fun d hd=> ?_,h1⟩,fun c hc=> ?_⟩
   ·obtain⟨b,hb,hb',he⟩:=h2 d hd
    exact⟨i,b,by omega,hb',rfl,he⟩
   ·rcases List.mem_cons.1 hc with rfl|hc
    ·exact⟨i,Nat.le_refl _,by omega,rfl⟩
    ·obtain⟨b,hb,hb',he⟩:=h2 c hc
     exact⟨b,by omega,hb',he⟩
  ·exact⟨h1,fun c hc=>by obtain⟨b,hb,hb',he⟩:=h2 c hc;exact⟨b,by omega,hb',he⟩⟩
theorem tree_order(ks:List KindS)(hk:∀k:Int,(kindAt ks k).kids.length<=3):∀(f:Nat) (t:TaskS),
  (tree ks f t).Pairwise (fun a b=>idl a < idl b)/\∀u∈tree ks f t,∃r,idl u=idl t++r
 |0,t=>by simp[tree]
 |f+1,t=>by
  have ho:=childrenFrom_order t.id t.arg (kindAt ks t.kind).kids 0 (by have:=hk t.kind;omega)
  have hc:∀c∈children ks t,∃a,c.id=kidId t.id a:=fun c h=>let⟨a,_,_,e⟩:=ho.2 c h;⟨a,e⟩
  have hid:∀(c:TaskS) (a:Nat),c.id=kidId t.id a->idl c=idl t++ [digit a]:=fun c a e=>by
   have:=idl_kid t.id a c.kind c.arg
   rw[<-e]at this;exact this
  have below:∀u∈(children ks t).flatMap (tree ks f),∃a r,idl u=idl t++digit a :: r:=fun u hu=>by
   obtain⟨c,hcm,hu⟩:=List.mem_flatMap.1 hu
   obtain⟨a,ha⟩:=hc c hcm
   obtain⟨r,hr⟩:=(tree_order ks hk f c).2 u hu
   exact⟨a,r,by rw[hr,hid c a ha];simp⟩
  refine⟨?_,fun u hu=> ?_⟩
  ·show(t :: (children ks t).flatMap (tree ks f)).Pairwise _
   refine List.pairwise_cons.2 ⟨fun u hu=> ?_,?_⟩
   ·obtain⟨a,r,e⟩:=below u hu
    rw[e];exact lex_self _ _ _
   ·refine List.pairwise_flatMap.2 ⟨fun c _=>(tree_order ks hk f c).1,ho.1.imp ?_⟩
    rintro c d ⟨a,b,hab,hb,ea,eb⟩ u hu v hv
    obtain⟨r,hr⟩:=(tree_order ks hk f c).2 u hu
    obtain⟨s,hs⟩:=(tree_order ks hk f d).2 v hv
    rw[hr,hs,hid c a ea,hid d b eb,List.append_assoc,List.append_assoc]
    exact lex_split _ _ _ (digit_lt hab hb)
  ·rcases List.mem_cons.1 hu with rfl|hu
   ·exact⟨[],by simp⟩
   ·obtain⟨a,r,e⟩:=below u hu
    exact⟨_,e⟩
end Go.Proofs.YtfanaanofjhlkaaGreatDoor
namespace Go.Proofs.YtfanaanofjhlkaaGreatDoor
open Go Go.RowKit Go.Shelf
def allTasks(ks:List KindS)(kind arg:Int):List TaskS:=tree ks 12 ⟨⟨#[]⟩,kind,arg⟩
abbrev GoodT(ks:List KindS):={t:TaskS // Good ks t}
set_option maxHeartbeats 1000000 in
set_option maxRecDepth 100000 in
theorem tasks1_seq(n:Nat)(Bp:Nat)(X ok:Nat->Prop)(a:Option Addr)(cap:Nat)(kind arg:Int)(ks:List KindS)(W:World)
  (hp:BoxAt W Bp 41 #[.slice a ks.length cap,.int .i64 kind,.int .i64 arg])
  (hk:KindsAt ok W (.slice a ks.length cap) ks) (hX:∀k,X k->k < W.heap.size) (hok:∀b,ok b->¬X b) (hprog:progB ks kind arg=true) :
  SeqX Fence.wide n Tryz.prog 144 #[.pointer (some ⟨Bp,0,none⟩)] (fun t:GoodT ks=>#[taskV t.1]) X
   (fun xs=>xs.map Subtype.val=allTasks ks kind arg) (fun pre=>pre.map Subtype.val <+: allTasks ks kind arg) W:=by
 intro l J Jx hJ hJx hY h0
 have hG:Good ks ⟨⟨#[]⟩,kind,arg⟩:=by
  simp[progB,numB,rangeB]at hprog
  exact⟨hprog.1.2.1,by dsimp only;omega,hprog.2.1,by simp[ByteArray.size];omega⟩
 have hG4:=hG.2.2.2
 have hw:=walk_says (l:=l) (B:=W.heap.size) (a:=a) (cap:=cap) (ok:=fun b=>ok b/\b < W.heap.size) (J:=fun pre V=>∃xs:List (GoodT ks),xs.map Subtype.val=pre/\J xs V) (Jx:=fun pre V=>∃xs:List (GoodT ks),xs.map Subtype.val=pre/\Jx xs V) hprog hX (fun b h=>hok b h.1)
  (fun s A A' h hb=>h.imp fun xs h=>⟨h.1,hJ _ _ _ h.2 hb⟩) (fun s A A' h hb=>h.imp fun xs h=>⟨h.1,hJx _ _ _ h.2 hb⟩)
  (fun m pre t W1 hg hj hs=>by
   obtain⟨xs,rfl,hj⟩:=hj
   obtain⟨fn,tmps,assign,body,hy,hR⟩:=hY xs ⟨t,hg⟩ W1 hj hs
   refine⟨fn,tmps,assign,body,hy,hR.1,fun c cs _=> ?_⟩
   obtain⟨e,w',hr,hs⟩:=hR.2 c cs (room_wide _)
   exact⟨e,w',hr.imp (fun h=>⟨h.1,⟨_,by simp,h.2.1⟩,h.2.2⟩) (fun h=>⟨h.1,⟨_,by simp,h.2.1⟩,h.2.2⟩),hs⟩) 12 ⟨⟨#[]⟩,kind,arg⟩ hG (by have:=hG.2.2.2;simp[ByteArray.size]at this;omega)
 have HW:Hid (∀V,Below W.heap.size W V->Calls Tryz.prog 145 #[.agg #[.slice a ks.length cap,.int .i64 kind,.int .i64 arg],.agg #[.string ⟨#[]⟩,.int .i64 kind,.int .i64 arg],.func (.yield l) #[] #[]] V fun e W'=>∃b,e= .returned (.bool b)/\
   ((∃xs:List (GoodT ks),xs.map Subtype.val=allTasks ks kind arg/\J xs W')\/(∃pre:List (GoodT ks),pre.map Subtype.val <+: allTasks ks kind arg/\Jx pre W'))):=fun V hV=>by
  refine(callsIn_wide (n:=n)).1 ((hw n [] V (hk.below.kept (Kept.of_below (X:=fun k=>W.heap.size<=k) hV (fun _ _ h=>h)) (fun b h=>by omega)) ⟨[],rfl,hJ _ _ _ h0 hV⟩ hV.size).mono ?_)
  rintro e W' (⟨rfl,⟨xs,hx,hj⟩,-⟩|⟨rfl,q,hq,⟨xs,hx,hj⟩,-⟩)
  ·exact⟨true,rfl,.inl ⟨xs,by simpa[allTasks]using hx,hj⟩⟩
  ·exact⟨false,rfl,.inr ⟨xs,by rw[hx];simpa[allTasks]using hq,hj⟩⟩
 have p0:=hp.cell (o:=0) rfl
 have p1:=hp.cell (o:=1) rfl
 have p2:=hp.cell (o:=2) rfl
 have hlt:=hp.lt
 have HF:Hid (∀V,Below W.heap.size W V->Calls Tryz.prog 50 #[.agg #[.slice a ks.length cap,.int .i64 kind,.int .i64 arg]] V fun e w'=>e= .returned (.agg #[.string ⟨#[]⟩,.int .i64 kind,.int .i64 arg])/\Below W.heap.size W w'/\
   w'.cell? ⟨Bp,0,none⟩=some (.slice a ks.length cap)/\w'.cell? ⟨Bp,1,none⟩=some (.int .i64 kind)/\w'.cell? ⟨Bp,2,none⟩=some (.int .i64 arg)):=fun V hV=>by
  refine(first_calls a ks.length cap kind arg V).mono ?_
  rintro e w' ⟨rfl,hb⟩
  have hb':=hV.trans (hb.mono hV.size)
  exact⟨rfl,hb',(hb'.cell (p:=⟨Bp,0,none⟩) hlt).trans p0,(hb'.cell (p:=⟨Bp,1,none⟩) hlt).trans p1,(hb'.cell (p:=⟨Bp,2,none⟩) hlt).trans p2⟩
 clear hw hY hG hG4
 refine callsIn_wide.2 ?_
 simp only[List.append_toArray,List.cons_append,List.nil_append]
 go_enter Tryz.func144,Tryz.ntmps144
 go_wp2
 have hd:Below W.heap.size W W.drew:=(Below.refl _ _).drew
 go_region_with (first
  |(go_at_call 50;refine(HF.out _ (by assumption)).mono ?_;rintro e w' ⟨rfl,hb1,s0,s1,s2⟩)
  |(go_at_call 145;refine(HW.out _ (by assumption)).mono ?_;rintro e w' ⟨b,rfl,hend⟩))
 all_goals
  go_end0
  exact⟨⟨_,rfl⟩,hend⟩
end Go.Proofs.YtfanaanofjhlkaaGreatDoor
namespace Go.Proofs.YtfanaanofjhlkaaGreatDoor
open Go Go.RowKit Go.Maps Go.Sort
def mapOf(ks:List KindS)(l:List TaskS):DataW Unit:=l.foldl (fun D t=>D.put (keyL t.id) (elemD (valueOf ks t))) (.map [])
theorem mapOf_snoc(ks:List KindS)(l:List TaskS)(t:TaskS):mapOf ks (l++ [t])=(mapOf ks l).put (keyL t.id) (elemD (valueOf ks t)):=by simp[mapOf]
theorem keyL_inj{a b:TaskS}(h:keyL a.id=keyL b.id):idl a=idl b:=by simpa[keyL,idl]using h
theorem keyL_lit(id:ByteArray):WideAt.IsKeyLit (keyL id):=trivial
theorem mapOf_facts(ks:List KindS):∀n (l:List TaskS),l.length=n->
  Tidy (mapOf ks l)/\(∀s,has (mapOf ks l) (.string s)=true ↔ ∃t∈l,idl t=s)/\(l.Pairwise (fun a b=>idl a≠idl b)->Maps.size (mapOf ks l)=l.length/\∀t∈l,∀z,(mapOf ks l).atKey (keyL t.id) z=elemD (valueOf ks t))
 |0,l,h=>by
  obtain rfl:=List.length_eq_zero_iff.1 h
  exact⟨tidy_empty,fun s=>by simp[mapOf,has_eq],fun _=>⟨rfl,fun t ht=>by cases ht⟩⟩
 |n+1,l,h=>by
  obtain⟨l',t,rfl⟩:∃l' t,l=l'++ [t]:=⟨l.dropLast,l.getLast (by intro e;rw[e]at h;cases h),(List.dropLast_concat_getLast _).symm⟩
  simp at h
  obtain⟨h1,h2,h3⟩:=mapOf_facts ks n l' h
  rw[mapOf_snoc]
  refine⟨h1.put (keyL_lit _) _,fun s=> ?_,fun hp=> ?_⟩
  ·by_cases hs:idl t=s
   ·subst hs
    have:=has_put_same h1.isMap (keyL_lit t.id) (elemD (valueOf ks t))
    exact⟨fun _=>⟨t,by simp,rfl⟩,fun _=>this⟩
   ·rw[has_put_other (k:=keyL t.id) (k':= .string s) (by intro e;simp[keyL]at e;exact hs e.symm),h2 s]
    constructor
    ·rintro⟨u,hu,e⟩;exact⟨u,by simp[hu],e⟩
    ·rintro⟨u,hu,e⟩
     rcases List.mem_append.1 hu with hu|hu
     ·exact⟨u,hu,e⟩
     ·simp at hu;subst hu;exact absurd e hs
  ·obtain⟨hp1,_,hp2⟩:=List.pairwise_append.1 hp
   obtain⟨h4,h5⟩:=h3 hp1
   have hno:has (mapOf ks l') (keyL t.id)=false:=by
    cases hh:has (mapOf ks l') (keyL t.id)
    ·rfl
    ·obtain⟨u,hu,e⟩:=(h2 _).1 hh
     exact absurd e (hp2 u hu t (by simp))
   refine⟨by rw[size_put h1,hno];simp[h4],fun u hu z=> ?_⟩
   rcases List.mem_append.1 hu with hu|hu
   ·rw[atKey_put_other (by intro e;exact hp2 u hu t (by simp) (keyL_inj e)),h5 u hu]
   ·simp at hu;subst hu;exact atKey_put_same h1.isMap (keyL_lit _) _ _
theorem mem_insert_or{x p:Lit×DataW Unit}:∀{l:List (Lit×DataW Unit)},p∈DataW.insert x l->p=x\/p∈l
 |[],h=>by simp[DataW.insert]at h;exact .inl h
 |y :: r,h=>by
  unfold DataW.insert at h
  split at h
  ·exact List.mem_cons.1 h
  ·rcases List.mem_cons.1 h with rfl|h
   ·exact .inr (by simp)
   ·exact(mem_insert_or h).imp id (fun h=>by simp[h])
theorem mapOf_keys(ks:List KindS):∀n (l:List TaskS),l.length=n->∃es,mapOf ks l= .map es/\∀p∈es,∃x,p.1= .string x
 |0,l,h=>by
  obtain rfl:=List.length_eq_zero_iff.1 h
  exact⟨[],rfl,fun p hp=>by cases hp⟩
 |n+1,l,h=>by
  obtain⟨l',t,rfl⟩:∃l' t,l=l'++ [t]:=⟨l.dropLast,l.getLast (by intro e;rw[e]at h;cases h),(List.dropLast_concat_getLast _).symm⟩
  simp at h
  obtain⟨es,he,hk⟩:=mapOf_keys ks n l' h
  rw[mapOf_snoc,he]
  refine⟨_,rfl,fun p hp=> ?_⟩
  rcases mem_insert_or hp with rfl|hp
  ·exact⟨_,rfl⟩
  ·exact hk p (List.mem_filter.1 hp).1
theorem mapOf_size_le(ks:List KindS)(l:List TaskS)(t:TaskS):Maps.size (mapOf ks (l++ [t]))<=Maps.size (mapOf ks l)+1:=by
 rw[mapOf_snoc,size_put (mapOf_facts ks _ l rfl).1];split<;>omega
def taskCells(ks:List KindS)(l:List TaskS):List Value:=l.flatMap fun t=>[.string t.id,.int .i64 (valueOf ks t)]
theorem flatMap_same{α β:Type}{f g:α->List β}:∀{l:List α},(∀t∈l,f t=g t)->l.flatMap f=l.flatMap g
 |[],_=>rfl
 |a :: r,h=>by rw[List.flatMap_cons,List.flatMap_cons,h a (by simp),flatMap_same fun t ht=>h t (by simp[ht])]
theorem sorted_keys(ks:List KindS)(l:List TaskS)(hp:l.Pairwise (fun a b=>idl a < idl b)){ss:List (List UInt8)}(hs:ss.Perm (strKeys (mapOf ks l))) :
  ss.length=l.length/\valCells (mapOf ks l) (ss.mergeSort (fun x y=>decide (x<=y)))=taskCells ks l:=by
 have hne:l.Pairwise (fun a b=>idl a≠idl b):=hp.imp fun h e=>by rw[e]at h;exact List.lt_irrefl _ h
 obtain⟨h1,h2,h3⟩:=mapOf_facts ks _ l rfl
 obtain⟨h4,h5⟩:=h3 hne
 obtain⟨es,he,hes⟩:=h1
 have hk:∀p∈es,∃x,p.1= .string x:=by
  obtain⟨es',he',hk⟩:=mapOf_keys ks _ l rfl
  rw[he]at he';cases he';exact hk
 have hperm:(l.map idl).Perm (strKeys (mapOf ks l)):=by
  rw[he]
  refine perm_strKeys hes hk (List.pairwise_map.2 hne) fun x=> ?_
  rw[<-he,h2 x];simp
 have hsort:ss.mergeSort (fun x y=>decide (x<=y))=l.map idl:=by
  have e1:=mergeSort_of_perm (hs.trans hperm.symm)
  refine e1.trans ?_
  refine List.mergeSort_of_pairwise ?_
  exact List.pairwise_map.2 (hp.imp fun h=>by simpa[leB]using List.le_of_lt h)
 refine⟨by rw[(hs.trans hperm.symm).length_eq];simp,?_⟩
 rw[hsort]
 unfold valCells taskCells
 rw[List.flatMap_map]
 refine flatMap_same fun t ht=> ?_
 have:valAt (mapOf ks l) (idl t)=valueOf ks t:=by
  unfold valAt
  rw[show(Lit.string (idl t))=keyL t.id from rfl,h5 t ht];rfl
 rw[this]
 simp[encStr,idl]
theorem kids_le(ks:List KindS)(kind arg:Int)(hp:progB ks kind arg=true)(k:Int):(kindAt ks k).kids.length<=3:=by
 unfold kindAt
 cases h:ks[k.toNat]? with
 |none=>simp
 |some c=>
  simp[progB]at hp
  have:=hp.1.1.2 c (List.mem_of_getElem? h)
  simp[kindB]at this
  exact this.1.2
theorem all_order{ks:List KindS}{kind arg:Int}(hp:progB ks kind arg=true):(allTasks ks kind arg).Pairwise (fun a b=>idl a < idl b):=(tree_order ks (kids_le ks kind arg hp) _ _).1
def unfoldS(ks:List KindS)(kind arg:Int):Int×List TaskS:=
 if progB ks kind arg=true then(if(allTasks ks kind arg).length<=200 then(0,allTasks ks kind arg)else(4,[]))else(3,[])
end Go.Proofs.YtfanaanofjhlkaaGreatDoor
