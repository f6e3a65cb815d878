import Derived.Test.YtfanaanofjhlkaaGreatDoorList
import Derived.Stop.RegionWithIn
set_option maxHeartbeats 16000000
set_option maxRecDepth 100000
namespace Go.Proofs.YtfanaanofjhlkaaGreatDoor
open Go Go.RowKit Go.Shelf Tryz
attribute [local go_sem] Oper.semAt_some
def gO(ks:List aS)(t:aL):Prop:=0<=t.kind/\t.kind < ks.length/\0<=t.arg/\(t.id.size:Int)+t.arg<=12
theorem yA(id:ByteArray)(i:Nat):(gN id i).size=id.size+1:=by
 unfold gN;rw[ByteArray.size_append];rfl
theorem pZ{id:ByteArray}{x:Int}{c:aL}:∀{l:List eI} {i:Nat},c∈dX id x i l->∃d∈l,∃j,c=⟨gN id j,d.kind,x - d.less⟩/\d.less<=x
 |[],_,h=>by simp[dX]at h
 |d :: r,i,h=>by
  unfold dX at h;split at h
  ·rename_i hd
   rcases List.mem_cons.1 h with rfl|h
   ·exact⟨d,by simp,i,rfl,hd⟩
   ·obtain⟨e,he,j,hc,hx⟩:=pZ h;exact⟨e,List.mem_cons_of_mem _ he,j,hc,hx⟩
  ·obtain⟨e,he,j,hc,hx⟩:=pZ h;exact⟨e,List.mem_cons_of_mem _ he,j,hc,hx⟩
theorem lI{ks:List aS}{kind arg:Int}{t c:aL}(hp:cD ks kind arg=true)(hG:gO ks t)(hc:c∈aW ks t):gO ks c/\c.arg+1<=t.arg:=by
 obtain⟨h0,h1,h2,h3⟩:=hG;obtain⟨j,hj⟩:=Int.eq_ofNat_of_zero_le h0;have hjl:j < ks.length:=by omega
 have hk:jH ks t.kind=ks[j]:=by simp[jH,hj,hjl]
 obtain⟨d,hd,i,rfl,hx⟩:=pZ hc;rw[hk]at hd;have hkb:cL ks.length ks[j]=true:=by
  simp[cD]at hp;exact hp.1.1.2 _ (List.getElem_mem hjl)
 simp[cL,eW,jI,dF]at hkb;have:=hkb.2 d hd;refine⟨⟨by dsimp only;omega,by dsimp only;omega,by dsimp only;omega,?_⟩,by dsimp only;omega⟩;dsimp only;rw[yA];omega
theorem aCj{l L:List aL}(D:aL->List aL)(t:aL)(h:l <+: L):(t :: l.flatMap D) <+: (t :: L.flatMap D):=by
 obtain⟨r,rfl⟩:=h;exact⟨r.flatMap D,by simp⟩
section
variable (ks:List aS) (kind arg:Int) (a:Option Addr) (cap l B:Nat) (X ok:Nat->Prop) (J Jx:List aL->World->Prop)
def zF:Prop:=∀m pre t W1,gO ks t->J pre W1->B<=W1.heap.size->YieldAt Fence.wide m prog l #[fG t] W1 fun e W'=>
 (e= .returned (.bool true)/\J (pre++ [t]) W'/\aB X W1 W')\/(e= .returned (.bool false)/\Jx (pre++ [t]) W'/\aB (·< B) W1 W')
def uJ(t:aL)(T:List aL):Prop:=∀n pre W,bH ok W (.slice a ks.length cap) ks->J pre W->B<=W.heap.size->
 CallsIn Fence.wide n prog 145 #[.agg #[.slice a ks.length cap,.int .i64 kind,.int .i64 arg],fG t,.func (.yield l) #[] #[]] W fun e W'=>
  (e= .returned (.bool true)/\J (pre++T) W'/\aB X W W')\/(e= .returned (.bool false)/\∃q,q <+: T/\Jx (pre++q) W'/\aB (·< B) W W')
variable {ks kind arg a cap l B X ok J Jx}
theorem yD(hp:cD ks kind arg=true)(hX:∀k,X k->k < B)(hok:∀b,ok b->¬X b)
  (hJ:∀s A A',J s A->Below B A A'->J s A') (hJx:∀s A A',Jx s A->Below B A A'->Jx s A') (hY:zF ks l B X J Jx) (t:aL) (hG:gO ks t) (D:aL->List aL)
  (ih:∀c,c∈aW ks t->uJ ks kind arg a cap l B X ok J Jx c (D c)):uJ ks kind arg a cap l B X ok J Jx t (t :: (aW ks t).flatMap D):=by
 intro n pre W hk h0 hB;obtain⟨L,hL⟩:∃L,aW ks t=L:=⟨_,rfl⟩;rw[hL]at ih ⊢;obtain⟨id,k,x⟩:=t;have nX:∀k,B<=k->¬X k:=fun k h hx=>Nat.not_lt_of_le h (hX k hx)
 refine callsIn_of_wp_marks func145 rfl trivial ?_ rfl;simp only[ntmps145,fG,List.size_toArray,List.length_cons,List.length_nil,Nat.reduceAdd,Nat.reduceSub,Array.replicate_succ,Array.replicate_zero,List.push_toArray,List.append_toArray,List.nil_append,List.cons_append]
 gi_wp2
 obtain⟨V,hV⟩:∃V,((((W.alloc (Obj.cells #[Value.slice a ks.length cap,Value.int IntKind.i64 kind,Value.int IntKind.i64 arg] 41)).alloc (Obj.cells #[Value.string id,Value.int IntKind.i64 k,Value.int IntKind.i64 x] 62)).alloc (Obj.cells #[Value.func (Fn.yield l) #[] #[]] 192)).alloc (Obj.cells #[Value.bool false] 4))=V:=⟨_,rfl⟩;have hbV:Below W.heap.size W V:=by
  rw[<-hV];exact((((e_ _ _).alloc (a_ _) _).alloc (by simp) _).alloc (by simp;omega) _).alloc (by simp;omega) _
 have b3:aD V W.heap.size 41 #[Value.slice a ks.length cap,Value.int IntKind.i64 kind,Value.int IntKind.i64 arg]:=by
  rw[<-hV];exact(((aD.new W _ _).alloc _).alloc _).alloc _
 have b4:aD V (W.heap.size+1) 62 #[Value.string id,Value.int IntKind.i64 k,Value.int IntKind.i64 x]:=by
  rw[<-hV];have:=((aD.new (W.alloc (Obj.cells #[Value.slice a ks.length cap,Value.int IntKind.i64 kind,Value.int IntKind.i64 arg] 41)) 62 #[Value.string id,Value.int IntKind.i64 k,Value.int IntKind.i64 x]).alloc (Obj.cells #[Value.func (Fn.yield l) #[] #[]] 192)).alloc (Obj.cells #[Value.bool false] 4);simpa only[World.size_alloc]using this
 have b5:aD V (W.heap.size+1+1) 192 #[Value.func (Fn.yield l) #[] #[]]:=by
  rw[<-hV];have:=(aD.new ((W.alloc (Obj.cells #[Value.slice a ks.length cap,Value.int IntKind.i64 kind,Value.int IntKind.i64 arg] 41)).alloc (Obj.cells #[Value.string id,Value.int IntKind.i64 k,Value.int IntKind.i64 x] 62)) 192 #[Value.func (Fn.yield l) #[] #[]]).alloc (Obj.cells #[Value.bool false] 4);simpa only[World.size_alloc]using this
 have b6:aD V (W.heap.size+1+1+1) 4 #[Value.bool false]:=by
  rw[<-hV];have:=aD.new (((W.alloc (Obj.cells #[Value.slice a ks.length cap,Value.int IntKind.i64 kind,Value.int IntKind.i64 arg] 41)).alloc (Obj.cells #[Value.string id,Value.int IntKind.i64 k,Value.int IntKind.i64 x] 62)).alloc (Obj.cells #[Value.func (Fn.yield l) #[] #[]] 192)) 4 #[Value.bool false];simpa only[World.size_alloc]using this
 rw[hV];clear hV;have hsV:=hbV.size;obtain⟨fn,tmps,assign,body,hy,hR⟩:=hY (n - 1) pre ⟨id,k,x⟩ V hG (hJ _ _ _ h0 (hbV.mono hB)) (Nat.le_trans hB hsV);dsimp only[fG]at hy;rw[hy]
 gi_wp2
 refine⟨fun h=>(by cases h),?_⟩;refine hR.mono ?_;rintro e W1 (⟨rfl,hJ1,hk1⟩|⟨rfl,hJx1,hk1⟩)
 case inr=>
  have d6:=b6.kept hk1 (by omega);have c6:=d6.cell (o:=0) rfl;have g6:=d6.frozen 0
  gi_wp2
  refine⟨.bool false,?_,.inr ⟨rfl,[⟨id,k,x⟩],⟨L.flatMap D,by simp⟩,hJx _ _ _ hJx1 (((e_ _ W1)).setCell (p:=⟨W.heap.size+1+1+1,0,none⟩) (by simp;omega) _),?_⟩⟩
  ·have c7:=(aD.cell (o:=0) (show aD (W1.setCell ⟨W.heap.size+1+1+1,0,none⟩ (.bool false)) _ _ #[.bool false]from Boxed.set (.bool false) d6) rfl)
   simp[results,Tryz.f145,go_sem,c7]
  ·exact((aB.of_below hbV (fun k h h'=>absurd h (by omega))).trans hk1).setCell (.inr (by simp;omega)) _
 case inl=>
  clear hy hR;have e3:=b3.kept hk1 (nX _ (by omega));have e4:=b4.kept hk1 (nX _ (by omega));have e5:=b5.kept hk1 (nX _ (by omega));have e6:=b6.kept hk1 (nX _ (by omega));have q0:=e3.cell (o:=0) rfl;have q1:=e3.cell (o:=1) rfl;have q2:=e3.cell (o:=2) rfl;have r0:=e4.cell (o:=0) rfl;have r1:=e4.cell (o:=1) rfl;have r2:=e4.cell (o:=2) rfl;have hfC:Fence.wide.fn 115:=trivial
  gi_wp2_with ((try refine⟨fun h=>(by cases h),?_⟩);gi_at_call 115;refine(wU Fence.wide (n - 1) trivial rfl _ _ _ _ _ _ _ _ _).mono ?_;rintro e w' ⟨rfl,rfl⟩)
  obtain⟨Z,hZ⟩:∃Z,((W1.alloc (Obj.cells #[Value.slice a ks.length cap,Value.int IntKind.i64 kind,Value.int IntKind.i64 arg] 41)).alloc (Obj.cells #[Value.string id,Value.int IntKind.i64 k,Value.int IntKind.i64 x] 62))=Z:=⟨_,rfl⟩;have sZ:Z.heap.size=W1.heap.size+2:=by rw[<-hZ];simp
  have hbZ:Below W1.heap.size W1 Z:=by
   rw[<-hZ];exact((e_ _ _).alloc (a_ _) _).alloc (by simp) _
  have zp:aD Z W1.heap.size 41 #[Value.slice a ks.length cap,Value.int IntKind.i64 kind,Value.int IntKind.i64 arg]:=by
   rw[<-hZ];exact(aD.new W1 _ _).alloc _
  have zt:aD Z (W1.heap.size+1) 62 #[Value.string id,Value.int IntKind.i64 k,Value.int IntKind.i64 x]:=by
   rw[<-hZ];have:=aD.new (W1.alloc (Obj.cells #[Value.slice a ks.length cap,Value.int IntKind.i64 kind,Value.int IntKind.i64 arg] 41)) 62 #[Value.string id,Value.int IntKind.i64 k,Value.int IntKind.i64 x];simpa only[World.size_alloc]using this
  rw[hZ];clear hZ q0 q1 q2 r0 r1 r2;have hs1:=hk1.size;have z3:=e3.below hbZ (by have:=e3.lt;omega);have z4:=e4.below hbZ (by have:=e4.lt;omega);have z5:=e5.below hbZ (by have:=e5.lt;omega);have z6:=e6.below hbZ (by have:=e6.lt;omega);have l6:=e6.lt;have hkZ:aB X W Z:=((aB.of_below hbV (fun k h h'=>absurd h (by omega))).trans hk1).trans (aB.of_below hbZ (fun k h h'=>absurd h (by omega)));have kindsZ:bH ok Z (.slice a ks.length cap) ks:=hk.kept hkZ hok;obtain⟨g0,g1,g2,g3⟩:=hG;simp only at g0 g1 g2 g3;have HB:Hid (∀{A A':World},Below Z.heap.size A A'->Below B A A'):=fun h=>h.mono (by omega)
  have hseq:∀Y,Below Z.heap.size Z Y->Y.heap.size=Z.heap.size+2->pW Fence.wide (n - 1) prog 170 #[.pointer (some ⟨W1.heap.size,0,none⟩),.pointer (some ⟨W1.heap.size+1,0,none⟩)] (fun c:Of L=>#[fG c.1]) (fun k=>X k\/k=Z.heap.size+1)
    (fun xs=>xs.map Subtype.val=L) (fun pre=>pre.map Subtype.val <+: L) Y:=fun Y hbY sY=>by
   refine aDh (n - 1) W1.heap.size (W1.heap.size+1) (fun k=>X k\/k=Z.heap.size+1) (fun b=>ok b/\b < Z.heap.size) a cap kind arg ks ⟨id,k,x⟩ L hL Y (zp.below hbY (by omega)) (zt.below hbY (by omega))
    (kindsZ.below.kept (aB.of_below (X:=fun k=>Z.heap.size<=k) hbY (fun _ _ h=>h)) (fun b h=>by omega)) ?_ ?_ hp g0 g1 g2 (by dsimp only;omega) (by dsimp only;omega)
   ·rintro b h (h'|h')
    ·exact hok b h.1 h'
    ·omega
   ·rintro(h'|h')
    ·exact nX _ (by omega) h'
    ·omega
  refine yG (F:=Fence.wide) (n:=n) (w:=Z) rfl (fun h=>(by cases h)) (gf:=170) (lb:=#[.pointer (some ⟨W1.heap.size,0,none⟩),.pointer (some ⟨W1.heap.size+1,0,none⟩)]) (by rfl) trivial (enters_of func170 (by kernel_rfl) rfl)
   X (fun k h=>by have:=hX k h;omega) hseq
   (fun _=>by rfl)
   (fun pre' U=>J (pre++⟨id,k,x⟩ :: (pre'.map Subtype.val).flatMap D) U/\aB X Z U)
   (fun c pre' U=>c= .ret/\(∃q,q <+: (⟨id,k,x⟩ :: (pre'.map Subtype.val).flatMap D)/\Jx (pre++q) U)/\aB (·< B) W U/\aD U (W.heap.size+1+1+1) 4 #[.bool false])
   (fun s A A' h hb=>⟨hJ _ _ _ h.1 (HB.out hb),h.2.later hb (a_ _)⟩)
   (fun c s A A' h hb=>⟨h.1,h.2.1.imp fun q h=>⟨h.1,hJx _ _ _ h.2 (HB.out hb)⟩,h.2.2.1.later hb (by omega),h.2.2.2.below hb (by omega)⟩)
   ⟨by simpa using hJ _ _ _ hJ1 (hbZ.mono (by omega)),aB.refl _ _⟩
   (fun pre' c a' U=>∃Bx,Z.heap.size+2<=Bx/\aD U Bx 62 #[.string c.1.id,.int .i64 c.1.kind,.int .i64 c.1.arg]/\a'=Act.mk #[Value.agg #[Value.slice a ks.length cap,Value.int IntKind.i64 kind,Value.int IntKind.i64 arg],
     Value.agg #[Value.string id,Value.int IntKind.i64 k,Value.int IntKind.i64 x],
     Value.func (Fn.yield l) #[] #[],Value.pointer (some {block:=W.heap.size,off:=0}),
     Value.pointer (some {block:=W.heap.size+1,off:=0}),
     Value.pointer (some {block:=W.heap.size+1+1,off:=0}),
     Value.pointer (some {block:=W.heap.size+1+1+1,off:=0}),Value.pointer (some {block:=Bx,off:=0}),Value.func (Fn.yield l) #[] #[],
     Value.agg #[Value.string id,Value.int IntKind.i64 k,Value.int IntKind.i64 x],Value.bool true,
     Value.bool false,
     Value.agg #[Value.slice a ks.length cap,Value.int IntKind.i64 kind,Value.int IntKind.i64 arg],
     Value.agg #[Value.string id,Value.int IntKind.i64 k,Value.int IntKind.i64 x],
     Value.func (Fn.func 170) #[]
      #[Value.pointer (some {block:=W1.heap.size,off:=0}),
       Value.pointer (some {block:=W1.heap.size+1,off:=0})],
     Value.agg #[.string c.1.id,.int .i64 c.1.kind,.int .i64 c.1.arg],undef,undef,undef,undef,undef] [])
   (fun pre' c a' A A' h hk=>by
    obtain⟨Bx,e1,e2,e3⟩:=h;exact⟨Bx,e1,e2.kept hk (by omega),e3⟩) ?assign ?body ?done ?stop
  case assign=>
   rintro l' pre' ⟨⟨id',k',x'⟩,hmem⟩ U K ⟨hJU,hkU⟩ hsU hK;simp only[fG]
   gi_wp2
   exact hK _ _ (aB.alloc _ _ _) ⟨hJ _ _ _ hJU (((e_ _ U).alloc (a_ _) _).mono (by omega)),hkU.trans (aB.alloc _ _ _)⟩ ⟨U.heap.size,hsU,aD.new U _ _,rfl⟩
  case body=>
   rintro l' pre' ⟨⟨id',k',x'⟩,hmem⟩ a' U ⟨hJU,hkU⟩ ⟨Bx,hBx,bX,rfl⟩ hsU;simp only at bX;have u3:=z3.kept hkU (nX _ (by omega));have u5:=z5.kept hkU (nX _ (by omega));have u6:=z6.kept hkU (nX _ (by omega));have q0:=u3.cell (o:=0) rfl;have q1:=u3.cell (o:=1) rfl;have q2:=u3.cell (o:=2) rfl;have q5:=u5.cell (o:=0) rfl;have r0:=bX.cell (o:=0) rfl;have r1:=bX.cell (o:=1) rfl;have r2:=bX.cell (o:=2) rfl;have hfW:Fence.wide.fn 145:=trivial;have HI:Hid (∀m,CallsIn Fence.wide m prog 145 #[.agg #[.slice a ks.length cap,.int .i64 kind,.int .i64 arg],.agg #[.string id',.int .i64 k',.int .i64 x'],.func (.yield l) #[] #[]] U fun e W'=>
     (e= .returned (.bool true)/\J ((pre++⟨id,k,x⟩ :: (pre'.map Subtype.val).flatMap D)++D ⟨id',k',x'⟩) W'/\aB X U W')\/(e= .returned (.bool false)/\∃q,q <+: D ⟨id',k',x'⟩/\Jx ((pre++⟨id,k,x⟩ :: (pre'.map Subtype.val).flatMap D)++q) W'/\aB (·< B) U W'/\W'.cell? ⟨W.heap.size+1+1+1,0,none⟩=some (.bool false)/\W'.frozen? ⟨W.heap.size+1+1+1,0,none⟩=false)):=
    fun m=>(ih ⟨id',k',x'⟩ hmem m _ U (kindsZ.kept hkU hok) hJU (by omega)).mono fun e W' h=>h.elim .inl fun⟨he,q,hq,hj,hk⟩=>
     .inr ⟨he,q,hq,hj,hk,(u6.kept hk (by omega)).cell (o:=0) rfl,(u6.kept hk (by omega)).frozen 0⟩
   gi_wp2_with ((try refine⟨fun h=>(by cases h),?_⟩);gi_at_call 145;refine(CallsIn.inRound l' (HI.out _)).mono ?_;rintro e U1 (⟨rfl,hJ2,hk2⟩|⟨rfl,q,hq,hJx2,hk2,c6,f6⟩))
   ·exact⟨hk2,by simpa[List.append_assoc]using hJ2,hkU.trans hk2⟩
   ·have v6:=u6.kept hk2 (by omega)
    have hsU1:=hk2.size;have n6:W.heap.size+1+1+1 < Z.heap.size:=z6.lt;have kU1:aB (·< B) W U1:=((hkZ.trans hkU).mono (fun k _ h=>hX k h)).trans hk2;refine⟨(hk2.mono (fun k _ h=>by omega)).setCell (.inl n6) _,rfl,⟨⟨id,k,x⟩ :: ((pre'.map Subtype.val).flatMap D++q),?_,?_⟩,kU1.setCell (.inr (by simp;omega)) _,Boxed.set (.bool false) v6⟩
    ·obtain⟨r,hr⟩:=hq
     exact⟨r,by simp[<-hr]⟩
    ·refine hJx _ _ _ ?_ ((e_ _ U1).setCell (p:=⟨W.heap.size+1+1+1,0,none⟩) (by simp;omega) _)
     simpa[List.append_assoc]using hJx2
  case done=>
   rintro Dd xs U hD hS ⟨hJU,hkU⟩ hK;have u6:=z6.kept hkU (nX _ (by omega));have c6:=u6.cell (o:=0) rfl;have f6:=u6.frozen 0;have n6:W.heap.size+1+1+1 < Z.heap.size:=z6.lt
   gi_wp2
   have hK':(U.setCell ⟨W.heap.size+1+1+1,0,none⟩ (.bool true)).heap[Dd]?= some (.deferred (some [])):=(Below.heap_setCell U ⟨W.heap.size+1+1+1,0,none⟩ (.bool true) Dd (by simp;omega)).trans hK;refine⟨by simp,.inl ⟨_,_,rfl,run_takeDeferred hK',?_⟩⟩;have hkF:aB (·= Dd) (U.setCell ⟨W.heap.size+1+1+1,0,none⟩ (.bool true)) ((U.setCell ⟨W.heap.size+1+1+1,0,none⟩ (.bool true)).putObj Dd (.deferred none)):=aB.putObj _ _ _ rfl;have hc6:=((show aD (U.setCell ⟨W.heap.size+1+1+1,0,none⟩ (.bool true)) _ _ #[.bool true]from Boxed.set (.bool true) u6).kept hkF (by omega)).cell (o:=0) rfl;have hDs:=(h_.1 hK).1;have hbF:Below (W.heap.size+1+1+1) U ((U.setCell ⟨W.heap.size+1+1+1,0,none⟩ (.bool true)).putObj Dd (.deferred none)):=
    ((e_ _ U).setCell (p:=⟨W.heap.size+1+1+1,0,none⟩) (by simp) _).trans (hkF.below (by have:=(h_.1 hK').1;omega) (fun k e=>by omega))
   refine⟨.bool true,?_,.inl ⟨rfl,?_,(hkZ.trans hkU).later hbF (by omega)⟩⟩
   ·simp[results,Tryz.f145,go_sem,hc6]
   ·rw[<-hS];exact hJ _ _ _ hJU (hbF.mono (by omega))
  case stop=>
   rintro Dd c pre' U hD hpre ⟨rfl,⟨q,hq,hJU⟩,hkU,u6⟩ hK
   gi_wp2
   refine⟨by simp,.inl ⟨_,_,rfl,run_takeDeferred hK,?_⟩⟩;have n6:W.heap.size+1+1+1 < Z.heap.size:=z6.lt;have hkF:aB (·= Dd) U (U.putObj Dd (.deferred none)):=aB.putObj _ _ _ rfl;have hc6:=(u6.kept hkF (by omega)).cell (o:=0) rfl;have hbF:Below W.heap.size U (U.putObj Dd (.deferred none)):=hkF.below (by have:=(h_.1 hK).1;omega) (fun k e=>by omega);refine⟨.bool false,?_,.inr ⟨rfl,q,?_,hJx _ _ _ hJU (hbF.mono hB),hkU.later hbF (a_ _)⟩⟩
   ·simp[results,Tryz.f145,go_sem,hc6]
   ·refine hq.trans ?_
    exact aCj D _ hpre
theorem yK(hp:cD ks kind arg=true)(hX:∀k,X k->k < B)(hok:∀b,ok b->¬X b)
  (hJ:∀s A A',J s A->Below B A A'->J s A') (hJx:∀s A A',Jx s A->Below B A A'->Jx s A') (hY:zF ks l B X J Jx) :
  ∀(f:Nat) (t:aL),gO ks t->t.arg<=f->uJ ks kind arg a cap l B X ok J Jx t (fY ks f t)
 |0,t,hG,hf=>by
  have he:aW ks t=[]:=by
   refine List.eq_nil_iff_forall_not_mem.2 fun c hc=> ?_
   have h:=lI hp hG hc;have h2:=h.1.2.2.1;omega
  have:=yD (a:=a) (cap:=cap) hp hX hok hJ hJx hY t hG (fun _=>[]) (fun c hc=>by rw[he]at hc;cases hc);rw[he]at this;exact this
 |f+1,t,hG,hf=>yD hp hX hok hJ hJx hY t hG (fY ks f) fun c hc=>yK hp hX hok hJ hJx hY f c (lI hp hG hc).1 (by have:=(lI hp hG hc).2;omega)
end
end Go.Proofs.YtfanaanofjhlkaaGreatDoor
namespace Go.Proofs.YtfanaanofjhlkaaGreatDoor
open Go
def eM(t:aL):List UInt8:=t.id.data.toList
theorem aLz(id:ByteArray)(i:Nat)(k x:Int):eM ⟨gN id i,k,x⟩=id.data.toList++ [iP i]:=by
 simp[eM,gN,ByteArray.data_append]
theorem aLa{i j:Nat}(h:i < j)(hj:j < 100):iP i < iP j:=by
 unfold iP;rw[UInt8.lt_iff_toNat_lt];simp only[UInt8.toNat_ofNat'];omega
theorem aLj(p r:List UInt8)(d:UInt8):p < p++d :: r:=by
 induction p with
 |nil=>exact List.Lex.nil
 |cons a p ih=>exact List.Lex.cons ih
theorem aIz(p r s:List UInt8){d e:UInt8}(h:d < e):p++d :: r < p++e :: s:=by
 induction p with
 |nil=>exact List.Lex.rel h
 |cons a p ih=>exact List.Lex.cons ih
theorem uW(id:ByteArray)(x:Int):∀(l:List eI) (i:Nat),i+l.length < 100->
  (dX id x i l).Pairwise (fun c d=>∃a b,a < b/\b < 100/\c.id=gN id a/\d.id=gN id b)/\∀c∈dX id x i l,∃a,i<=a/\a < 100/\c.id=gN id a
 |[],_,_=>by simp[dX]
 |k :: r,i,h=>by
  simp only[List.length_cons]at h;obtain⟨h1,h2⟩:=uW id x r (i+1) (by omega);unfold dX;split
  ·refine⟨List.pairwise_cons.2 ⟨fun d hd=> ?_,h1⟩,fun c hc=> ?_⟩
   ·obtain⟨b,hb,hb',he⟩:=h2 d hd
    exact⟨i,b,by omega,hb',rfl,he⟩
   ·rcases List.mem_cons.1 hc with rfl|hc
    ·exact⟨i,a_ _,by omega,rfl⟩
    ·obtain⟨b,hb,hb',he⟩:=h2 c hc
     exact⟨b,by omega,hb',he⟩
  ·exact⟨h1,fun c hc=>by obtain⟨b,hb,hb',he⟩:=h2 c hc;exact⟨b,by omega,hb',he⟩⟩
theorem pE(ks:List aS)(hk:∀k:Int,(jH ks k).kids.length<=3):∀(f:Nat) (t:aL),
  (fY ks f t).Pairwise (fun a b=>eM a < eM b)/\∀u∈fY ks f t,∃r,eM u=eM t++r
 |0,t=>by simp[fY]
 |f+1,t=>by
  have ho:=uW t.id t.arg (jH ks t.kind).kids 0 (by have:=hk t.kind;omega);have hc:∀c∈aW ks t,∃a,c.id=gN t.id a:=fun c h=>let⟨a,_,_,e⟩:=ho.2 c h;⟨a,e⟩
  have hid:∀(c:aL) (a:Nat),c.id=gN t.id a->eM c=eM t++ [iP a]:=fun c a e=>by
   have:=aLz t.id a c.kind c.arg;rw[<-e]at this;exact this
  have below:∀u∈(aW ks t).flatMap (fY ks f),∃a r,eM u=eM t++iP a :: r:=fun u hu=>by
   obtain⟨c,hcm,hu⟩:=List.mem_flatMap.1 hu;obtain⟨a,ha⟩:=hc c hcm;obtain⟨r,hr⟩:=(pE ks hk f c).2 u hu;exact⟨a,r,by rw[hr,hid c a ha];simp⟩
  refine⟨?_,fun u hu=> ?_⟩
  ·show(t :: (aW ks t).flatMap (fY ks f)).Pairwise _
   refine List.pairwise_cons.2 ⟨fun u hu=> ?_,?_⟩
   ·obtain⟨a,r,e⟩:=below u hu
    rw[e];exact aLj _ _ _
   ·refine List.pairwise_flatMap.2 ⟨fun c _=>(pE ks hk f c).1,ho.1.imp ?_⟩
    rintro c d ⟨a,b,hab,hb,ea,eb⟩ u hu v hv;obtain⟨r,hr⟩:=(pE ks hk f c).2 u hu;obtain⟨s,hs⟩:=(pE ks hk f d).2 v hv;rw[hr,hs,hid c a ea,hid d b eb,List.append_assoc,List.append_assoc];exact aIz _ _ _ (aLa hab hb)
  ·rcases List.mem_cons.1 hu with rfl|hu
   ·exact⟨[],by simp⟩
   ·obtain⟨a,r,e⟩:=below u hu
    exact⟨_,e⟩
end Go.Proofs.YtfanaanofjhlkaaGreatDoor
namespace Go.Proofs.YtfanaanofjhlkaaGreatDoor
open Go Go.RowKit Go.Shelf Tryz
def dH(ks:List aS)(kind arg:Int):List aL:=fY ks 12 ⟨⟨#[]⟩,kind,arg⟩
abbrev mQ(ks:List aS):={t:aL // gO ks t}
theorem aHt(n:Nat)(Bp:Nat)(X ok:Nat->Prop)(a:Option Addr)(cap:Nat)(kind arg:Int)(ks:List aS)(W:World)
  (hp:aD W Bp 41 #[.slice a ks.length cap,.int .i64 kind,.int .i64 arg])
  (hk:bH ok W (.slice a ks.length cap) ks) (hX:∀k,X k->k < W.heap.size) (hok:∀b,ok b->¬X b) (hprog:cD ks kind arg=true) :
  pW Fence.wide n prog 144 #[.pointer (some ⟨Bp,0,none⟩)] (fun t:mQ ks=>#[fG t.1]) X
   (fun xs=>xs.map Subtype.val=dH ks kind arg) (fun pre=>pre.map Subtype.val <+: dH ks kind arg) W:=by
 intro l J Jx hJ hJx hY h0;have hG:gO ks ⟨⟨#[]⟩,kind,arg⟩:=by
  simp[cD,jI,dF]at hprog;exact⟨hprog.1.2.1,by dsimp only;omega,hprog.2.1,by simp[ByteArray.size];omega⟩
 have hG4:=hG.2.2.2;have hw:=yK (l:=l) (B:=W.heap.size) (a:=a) (cap:=cap) (ok:=fun b=>ok b/\b < W.heap.size) (J:=fun pre V=>∃xs:List (mQ ks),xs.map Subtype.val=pre/\J xs V) (Jx:=fun pre V=>∃xs:List (mQ ks),xs.map Subtype.val=pre/\Jx xs V) hprog hX (fun b h=>hok b h.1)
  (fun s A A' h hb=>h.imp fun xs h=>⟨h.1,hJ _ _ _ h.2 hb⟩) (fun s A A' h hb=>h.imp fun xs h=>⟨h.1,hJx _ _ _ h.2 hb⟩)
  (fun m pre t W1 hg hj hs=>by
   obtain⟨xs,rfl,hj⟩:=hj;obtain⟨fn,tmps,assign,body,hy,hR⟩:=hY xs ⟨t,hg⟩ W1 hj hs;refine⟨fn,tmps,assign,body,hy,hR.1,fun c cs _=> ?_⟩;obtain⟨e,w',hr,hs⟩:=hR.2 c cs (room_wide _);exact⟨e,w',hr.imp (fun h=>⟨h.1,⟨_,by simp,h.2.1⟩,h.2.2⟩) (fun h=>⟨h.1,⟨_,by simp,h.2.1⟩,h.2.2⟩),hs⟩) 12 ⟨⟨#[]⟩,kind,arg⟩ hG (by have:=hG.2.2.2;simp[ByteArray.size]at this;omega)
 have HW:Hid (∀V,Below W.heap.size W V->Calls prog 145 #[.agg #[.slice a ks.length cap,.int .i64 kind,.int .i64 arg],.agg #[.string ⟨#[]⟩,.int .i64 kind,.int .i64 arg],.func (.yield l) #[] #[]] V fun e W'=>∃b,e= .returned (.bool b)/\
   ((∃xs:List (mQ ks),xs.map Subtype.val=dH ks kind arg/\J xs W')\/(∃pre:List (mQ ks),pre.map Subtype.val <+: dH ks kind arg/\Jx pre W'))):=fun V hV=>by
  refine(callsIn_wide (n:=n)).1 ((hw n [] V (hk.below.kept (aB.of_below (X:=fun k=>W.heap.size<=k) hV (fun _ _ h=>h)) (fun b h=>by omega)) ⟨[],rfl,hJ _ _ _ h0 hV⟩ hV.size).mono ?_);rintro e W' (⟨rfl,⟨xs,hx,hj⟩,-⟩|⟨rfl,q,hq,⟨xs,hx,hj⟩,-⟩)
  ·exact⟨true,rfl,.inl ⟨xs,by simpa[dH]using hx,hj⟩⟩
  ·exact⟨false,rfl,.inr ⟨xs,by rw[hx];simpa[dH]using hq,hj⟩⟩
 have p0:=hp.cell (o:=0) rfl;have p1:=hp.cell (o:=1) rfl;have p2:=hp.cell (o:=2) rfl;have hlt:=hp.lt;have HF:Hid (∀V,Below W.heap.size W V->Calls prog 50 #[.agg #[.slice a ks.length cap,.int .i64 kind,.int .i64 arg]] V fun e w'=>e= .returned (.agg #[.string ⟨#[]⟩,.int .i64 kind,.int .i64 arg])/\Below W.heap.size W w'/\
   w'.cell? ⟨Bp,0,none⟩=some (.slice a ks.length cap)/\w'.cell? ⟨Bp,1,none⟩=some (.int .i64 kind)/\w'.cell? ⟨Bp,2,none⟩=some (.int .i64 arg)):=fun V hV=>by
  refine(wH a ks.length cap kind arg V).mono ?_;rintro e w' ⟨rfl,hb⟩;have hb':=hV.trans (hb.mono hV.size);exact⟨rfl,hb',(hb'.cell (p:=⟨Bp,0,none⟩) hlt).trans p0,(hb'.cell (p:=⟨Bp,1,none⟩) hlt).trans p1,(hb'.cell (p:=⟨Bp,2,none⟩) hlt).trans p2⟩
 clear hw hY hG hG4;refine callsIn_wide.2 ?_;simp only[List.append_toArray,List.cons_append,List.nil_append];go_enter func144,ntmps144
 go_wp2
 have hd:Below W.heap.size W W.drew:=(e_ _ _).drew
 go_region_with (first
  |(go_at_call 50;refine(HF.out _ (by assumption)).mono ?_;rintro e w' ⟨rfl,hb1,s0,s1,s2⟩)
  |(go_at_call 145;refine(HW.out _ (by assumption)).mono ?_;rintro e w' ⟨b,rfl,hend⟩))
 all_goals
  go_end0
  exact⟨⟨_,rfl⟩,hend⟩
end Go.Proofs.YtfanaanofjhlkaaGreatDoor
namespace Go.Proofs.YtfanaanofjhlkaaGreatDoor
open Go Go.RowKit Go.Maps Go.Sort Tryz
def fA(ks:List aS)(l:List aL):DataW Unit:=l.foldl (fun D t=>D.put (fZ t.id) (lH (cQ ks t))) (.map [])
theorem qQ(ks:List aS)(l:List aL)(t:aL):fA ks (l++ [t])=(fA ks l).put (fZ t.id) (lH (cQ ks t)):=by simp[fA]
theorem aLh{a b:aL}(h:fZ a.id=fZ b.id):eM a=eM b:=by simpa[fZ,eM]using h
theorem oL(id:ByteArray):WideAt.IsKeyLit (fZ id):=trivial
theorem oV(ks:List aS):∀n (l:List aL),l.length=n->
  Tidy (fA ks l)/\(∀s,has (fA ks l) (.string s)=true ↔ ∃t∈l,eM t=s)/\(l.Pairwise (fun a b=>eM a≠eM b)->Maps.size (fA ks l)=l.length/\∀t∈l,∀z,(fA ks l).atKey (fZ t.id) z=lH (cQ ks t))
 |0,l,h=>by
  obtain rfl:=List.length_eq_zero_iff.1 h;exact⟨tidy_empty,fun s=>by simp[fA,has_eq],fun _=>⟨rfl,fun t ht=>by cases ht⟩⟩
 |n+1,l,h=>by
  obtain⟨l',t,rfl⟩:∃l' t,l=l'++ [t]:=⟨l.dropLast,l.getLast (by intro e;rw[e]at h;cases h),(List.dropLast_concat_getLast _).symm⟩;simp at h;obtain⟨h1,h2,h3⟩:=oV ks n l' h;rw[qQ];refine⟨h1.put (oL _) _,fun s=> ?_,fun hp=> ?_⟩
  ·by_cases hs:eM t=s
   ·subst hs
    have:=has_put_same h1.isMap (oL t.id) (lH (cQ ks t));exact⟨fun _=>⟨t,by simp,rfl⟩,fun _=>this⟩
   ·rw[has_put_other (k:=fZ t.id) (k':= .string s) (by intro e;simp[fZ]at e;exact hs e.symm),h2 s]
    constructor
    ·rintro⟨u,hu,e⟩;exact⟨u,by simp[hu],e⟩
    ·rintro⟨u,hu,e⟩
     rcases List.mem_append.1 hu with hu|hu
     ·exact⟨u,hu,e⟩
     ·simp at hu;subst hu;exact absurd e hs
  ·obtain⟨hp1,_,hp2⟩:=List.pairwise_append.1 hp
   obtain⟨h4,h5⟩:=h3 hp1;have hno:has (fA ks l') (fZ t.id)=false:=by
    cases hh:has (fA ks l') (fZ t.id)
    ·rfl
    ·obtain⟨u,hu,e⟩:=(h2 _).1 hh
     exact absurd e (hp2 u hu t (by simp))
   refine⟨by rw[size_put h1,hno];simp[h4],fun u hu z=> ?_⟩;rcases List.mem_append.1 hu with hu|hu
   ·rw[atKey_put_other (by intro e;exact hp2 u hu t (by simp) (aLh e)),h5 u hu]
   ·simp at hu;subst hu;exact atKey_put_same h1.isMap (oL _) _ _
theorem sR{x p:Lit×DataW Unit}:∀{l:List (Lit×DataW Unit)},p∈DataW.insert x l->p=x\/p∈l
 |[],h=>by simp[DataW.insert]at h;exact .inl h
 |y :: r,h=>by
  unfold DataW.insert at h;split at h
  ·exact List.mem_cons.1 h
  ·rcases List.mem_cons.1 h with rfl|h
   ·exact .inr (by simp)
   ·exact(sR h).imp id (fun h=>by simp[h])
theorem xG(ks:List aS):∀n (l:List aL),l.length=n->∃es,fA ks l= .map es/\∀p∈es,∃x,p.1= .string x
 |0,l,h=>by
  obtain rfl:=List.length_eq_zero_iff.1 h;exact⟨[],rfl,fun p hp=>by cases hp⟩
 |n+1,l,h=>by
  obtain⟨l',t,rfl⟩:∃l' t,l=l'++ [t]:=⟨l.dropLast,l.getLast (by intro e;rw[e]at h;cases h),(List.dropLast_concat_getLast _).symm⟩;simp at h;obtain⟨es,he,hk⟩:=xG ks n l' h;rw[qQ,he];refine⟨_,rfl,fun p hp=> ?_⟩;rcases sR hp with rfl|hp
  ·exact⟨_,rfl⟩
  ·exact hk p (List.mem_filter.1 hp).1
theorem aDv(ks:List aS)(l:List aL)(t:aL):Maps.size (fA ks (l++ [t]))<=Maps.size (fA ks l)+1:=by
 rw[qQ,size_put (oV ks _ l rfl).1];split<;>omega
def nD(ks:List aS)(l:List aL):List Value:=l.flatMap fun t=>[.string t.id,.int .i64 (cQ ks t)]
theorem oT{α β:Type}{f g:α->List β}:∀{l:List α},(∀t∈l,f t=g t)->l.flatMap f=l.flatMap g
 |[],_=>rfl
 |a :: r,h=>by rw[List.flatMap_cons,List.flatMap_cons,h a (by simp),oT fun t ht=>h t (by simp[ht])]
theorem aGq(ks:List aS)(l:List aL)(hp:l.Pairwise (fun a b=>eM a < eM b)){ss:List (List UInt8)}(hs:ss.Perm (strKeys (fA ks l))) :
  ss.length=l.length/\lJ (fA ks l) (ss.mergeSort (fun x y=>decide (x<=y)))=nD ks l:=by
 have hne:l.Pairwise (fun a b=>eM a≠eM b):=hp.imp fun h e=>by rw[e]at h;exact List.lt_irrefl _ h
 obtain⟨h1,h2,h3⟩:=oV ks _ l rfl;obtain⟨h4,h5⟩:=h3 hne;obtain⟨es,he,hes⟩:=h1;have hk:∀p∈es,∃x,p.1= .string x:=by
  obtain⟨es',he',hk⟩:=xG ks _ l rfl;rw[he]at he';cases he';exact hk
 have hperm:(l.map eM).Perm (strKeys (fA ks l)):=by
  rw[he];refine perm_strKeys hes hk (List.pairwise_map.2 hne) fun x=> ?_
  rw[<-he,h2 x];simp
 have hsort:ss.mergeSort (fun x y=>decide (x<=y))=l.map eM:=by
  have e1:=mergeSort_of_perm (hs.trans hperm.symm);refine e1.trans ?_;refine List.mergeSort_of_pairwise ?_;exact List.pairwise_map.2 (hp.imp fun h=>by simpa[leB]using List.le_of_lt h)
 refine⟨by rw[(hs.trans hperm.symm).length_eq];simp,?_⟩;rw[hsort];unfold lJ nD;rw[List.flatMap_map];refine oT fun t ht=> ?_
 have:mP (fA ks l) (eM t)=cQ ks t:=by
  unfold mP;rw[show(Lit.string (eM t))=fZ t.id from rfl,h5 t ht];rfl
 rw[this];simp[encStr,eM]
theorem zB(ks:List aS)(kind arg:Int)(hp:cD ks kind arg=true)(k:Int):(jH ks k).kids.length<=3:=by
 unfold jH;cases h:ks[k.toNat]? with
 |none=>simp
 |some c=>
  simp[cD]at hp;have:=hp.1.1.2 c (d_ h);simp[cL]at this;exact this.1.2
theorem uE{ks:List aS}{kind arg:Int}(hp:cD ks kind arg=true):(dH ks kind arg).Pairwise (fun a b=>eM a < eM b):=(pE ks (zB ks kind arg hp) _ _).1
def eC(ks:List aS)(kind arg:Int):Int×List aL:=
 if cD ks kind arg=true then(if(dH ks kind arg).length<=200 then(0,dH ks kind arg)else(4,[]))else(3,[])
end Go.Proofs.YtfanaanofjhlkaaGreatDoor
namespace Go.Proofs.YtfanaanofjhlkaaGreatDoor
open Go Go.RowKit Go.Shelf Go.Maps Tryz
attribute [local go_sem] Oper.semAt_some
theorem tM{ks:List aS}{kind arg:Int}(hp:cD ks kind arg=true){t:aL}(hG:gO ks t):(Lit.int .i64 (cQ ks t)).wf=true:=by
 obtain⟨h0,h1,h2,h3⟩:=hG;obtain⟨j,hj⟩:=Int.eq_ofNat_of_zero_le h0;have hjl:j < ks.length:=by omega
 have hk:jH ks t.kind=ks[j]:=by simp[jH,hj,hjl]
 have hkb:cL ks.length ks[j]=true:=by
  simp[cD]at hp;exact hp.1.1.2 _ (List.getElem_mem hjl)
 have hA: -1000<=ks[j].A/\ks[j].A<=1000:=by simp[cL,dF]at hkb;omega
 have hB: -1000<=ks[j].B/\ks[j].B<=1000:=by simp[cL,dF]at hkb;omega
 have m1:=Int.mul_le_mul_of_nonneg_right hA.1 h2;have m2:=Int.mul_le_mul_of_nonneg_right hA.2 h2;unfold cQ;rw[hk];have hmin:IntKind.i64.min= -9223372036854775808:=rfl;simp[Lit.wf];omega
theorem wC(a:Option Addr)(cap:Nat)(kind arg:Int)(ks:List aS)(w:World)(hk:bH (fun _=>True) w (.slice a ks.length cap) ks)(hl:ks.length<=9223372036854775806)(hl2:∀k∈ks,k.kids.length<=9223372036854775806) :
  Calls prog 35 #[.agg #[.slice a ks.length cap,.int .i64 kind,.int .i64 arg]] w fun e w'=>∃v,e= .returned (.tuple #[v,.int .i64 (eC ks kind arg).1])/\
   w'.ownsRow w.heap.size 92 2 v (eC ks kind arg).2.length (nD ks (eC ks kind arg).2)/\Below w.heap.size w w':=by
 refine(callsIn_wide (n:=5)).1 ?_;refine callsIn_of_wp_marks func35 rfl trivial ?_ rfl;simp only[ntmps35,List.size_toArray,List.length_cons,List.length_nil,Nat.reduceAdd,Nat.reduceSub,Array.replicate_succ,Array.replicate_zero,List.push_toArray,List.append_toArray,List.nil_append,List.cons_append]
 gi_wp2_with fail
 obtain⟨V,hV⟩:∃V,(((w.alloc (Obj.cells #[Value.slice a ks.length cap,Value.int IntKind.i64 kind,Value.int IntKind.i64 arg] 41)).alloc (Obj.cells #[Value.slice none 0 0] 42)).alloc (Obj.cells #[Value.int IntKind.i64 0] 46))=V:=⟨_,rfl⟩;have hbV:Below w.heap.size w V:=by
  rw[<-hV];exact(((e_ _ _).alloc (a_ _) _).alloc (by simp) _).alloc (by simp;omega) _
 have v1:aD V w.heap.size 41 #[Value.slice a ks.length cap,Value.int IntKind.i64 kind,Value.int IntKind.i64 arg]:=by
  rw[<-hV];exact((aD.new w _ _).alloc _).alloc _
 have v2:aD V (w.heap.size+1) 42 #[Value.slice none 0 0]:=by
  rw[<-hV];have:=(aD.new (w.alloc (Obj.cells #[Value.slice a ks.length cap,Value.int IntKind.i64 kind,Value.int IntKind.i64 arg] 41)) 42 #[Value.slice none 0 0]).alloc (Obj.cells #[Value.int IntKind.i64 0] 46);simpa only[World.size_alloc]using this
 have v3:aD V (w.heap.size+1+1) 46 #[Value.int IntKind.i64 0]:=by
  rw[<-hV];have:=aD.new ((w.alloc (Obj.cells #[Value.slice a ks.length cap,Value.int IntKind.i64 kind,Value.int IntKind.i64 arg] 41)).alloc (Obj.cells #[Value.slice none 0 0] 42)) 46 #[Value.int IntKind.i64 0];simpa only[World.size_alloc]using this
 have sV:V.heap.size=w.heap.size+3:=by rw[<-hV];simp
 rw[hV];clear hV;refine⟨trivial,?_⟩;have kV:=hk.below.kept (aB.of_below (X:=fun k=>w.heap.size<=k) hbV (fun _ _ h=>h)) (fun b h=>by omega);refine(callsIn_wide.2 (aBn (.slice a ks.length cap) kind arg ks _ V kV hl hl2)).mono ?_;rintro e w1 ⟨rfl,hb1⟩;have u1:=v1.below hb1 (by omega);have u2:=v2.below hb1 (by omega);have u3:=v3.below hb1 (by omega);have q0:=u1.cell (o:=0) rfl;have q1:=u1.cell (o:=1) rfl;have q2:=u1.cell (o:=2) rfl;have r2:=u2.cell (o:=0) rfl;have r3:=u3.cell (o:=0) rfl;have g2:=u2.frozen 0;have g3:=u3.frozen 0;have hsz1:=hb1.size;by_cases hprog:cD ks kind arg=true
 case neg=>
  have hp':cD ks kind arg=false:=by simpa using hprog
  gi_wp2_with fail
  have hnil:(Value.slice none 0 0)=(Value.slice none 0 0):=rfl;have s2:aD ((w1.setCell ⟨w.heap.size+1,0,none⟩ (.slice none 0 0)).setCell ⟨w.heap.size+1+1,0,none⟩ (.int .i64 3)) (w.heap.size+1) 42 #[.slice none 0 0]:=
   Boxed.other (Boxed.set (.slice none 0 0) u2) (by omega) _
  have s3:aD ((w1.setCell ⟨w.heap.size+1,0,none⟩ (.slice none 0 0)).setCell ⟨w.heap.size+1+1,0,none⟩ (.int .i64 3)) (w.heap.size+1+1) 46 #[.int .i64 3]:=
   Boxed.set (.int .i64 3) (Boxed.other u3 (by omega) (.slice none 0 0))
  have t2:=s2.cell (o:=0) rfl;have t3:=s3.cell (o:=0) rfl;refine⟨.tuple #[.slice none 0 0,.int .i64 3],by simp[results,Tryz.f35,go_sem,t2,t3],.slice none 0 0,?_,?_,?_⟩
  ·simp[eC,hp']
  ·simp only[eC,hp',Bool.false_eq_true,↓reduceIte];exact World.ownsRow_nil _ _ _ _
  ·exact(((hbV.trans (hb1.mono (by omega))).setCell (p:=⟨w.heap.size+1,0,none⟩) (by simp) _)).setCell (p:=⟨w.heap.size+1+1,0,none⟩) (by simp;omega) _
 have q0':=fun o1 o2=>cE o2 (cE o1 q0)
 have q1':=fun o1 o2=>cE o2 (cE o1 q1)
 have q2':=fun o1 o2=>cE o2 (cE o1 q2)
 have hmm:= @run_makeMap prog;have hfT:Fence.wide.fn 83:=trivial
 gi_wp2_with ((try refine⟨fun h=>(by cases h),?_⟩);gi_at_call 83;refine(aKs Fence.wide _ trivial rfl _ _ _ _ _ _).mono ?_;rintro e w' ⟨rfl,rfl⟩)
 obtain⟨Z,hZ⟩:∃Z,(((w1.alloc (Obj.map #[] 0)).alloc (Obj.cells #[Value.map (some w1.heap.size)] 99)).alloc (Obj.cells #[Value.slice a ks.length cap,Value.int IntKind.i64 kind,Value.int IntKind.i64 arg] 41))=Z:=⟨_,rfl⟩;have sZ:Z.heap.size=w1.heap.size+3:=by rw[<-hZ];simp
 have hbZ:Below w1.heap.size w1 Z:=by
  rw[<-hZ];exact(((e_ _ _).alloc (a_ _) _).alloc (by simp) _).alloc (by simp;omega) _
 have zm:eZ Z w1.heap.size (fA ks []):=by
  rw[<-hZ];exact uH (((World.ownsMap_made w1 prog 9 (plainElem prog 3)).alloc _).alloc _)
 have za:aD Z (w1.heap.size+1) 99 #[Value.map (some w1.heap.size)]:=by
  rw[<-hZ];have:=(aD.new (w1.alloc (Obj.map #[] 0)) 99 #[Value.map (some w1.heap.size)]).alloc (Obj.cells #[Value.slice a ks.length cap,Value.int IntKind.i64 kind,Value.int IntKind.i64 arg] 41);simpa only[World.size_alloc]using this
 have zq:aD Z (w1.heap.size+1+1) 41 #[Value.slice a ks.length cap,Value.int IntKind.i64 kind,Value.int IntKind.i64 arg]:=by
  rw[<-hZ];have:=aD.new ((w1.alloc (Obj.map #[] 0)).alloc (Obj.cells #[Value.map (some w1.heap.size)] 99)) 41 #[Value.slice a ks.length cap,Value.int IntKind.i64 kind,Value.int IntKind.i64 arg];simpa only[World.size_alloc]using this
 rw[hZ];clear hZ q0' q1' q2' hmm q0 q1 q2 r2 r3 g2 g3;have z1:=u1.below hbZ (by omega);have z2:=u2.below hbZ (by omega);have z3:=u3.below hbZ (by omega);have hbwZ:Below w.heap.size w Z:=(hbV.trans (hb1.mono (by omega))).trans (hbZ.mono (by omega));have kZ:bH (fun b=>True/\b < w.heap.size) Z (.slice a ks.length cap) ks:=hk.below.kept (aB.of_below (X:=fun k=>w.heap.size<=k) hbwZ (fun _ _ h=>h)) (fun b h=>by omega);have hseq:∀Y,Below Z.heap.size Z Y->Y.heap.size=Z.heap.size+2->pW Fence.wide (5 - 1) prog 144 #[.pointer (some ⟨w1.heap.size+1+1,0,none⟩)] (fun t:mQ ks=>#[fG t.1]) (fun k=>k=w1.heap.size\/k=Z.heap.size+1)
   (fun xs=>xs.map Subtype.val=dH ks kind arg) (fun pre=>pre.map Subtype.val <+: dH ks kind arg) Y:=fun Y hbY sY=>by
  refine aHt (5 - 1) (w1.heap.size+1+1) _ (fun b=>True/\b < w.heap.size) a cap kind arg ks Y (zq.below hbY (by omega)) (kZ.kept (aB.of_below (X:=fun k=>Z.heap.size<=k) hbY (fun _ _ h=>h)) (fun b h=>by omega)) ?_ ?_ hprog
  ·rintro k (h|h)<;>omega
  ·rintro b h (h'|h')<;>omega
 have HO:=uE hprog;refine yG (F:=Fence.wide) (n:=5) (w:=Z) rfl (fun h=>(by cases h)) (gf:=144) (lb:=#[.pointer (some ⟨w1.heap.size+1+1,0,none⟩)]) (by rfl) trivial (enters_of func144 (by kernel_rfl) rfl)
  (·= w1.heap.size) (fun k h=>by omega) hseq (fun _=>by rfl)
  (fun pre U=>eZ U w1.heap.size (fA ks (pre.map Subtype.val))/\Maps.size (fA ks (pre.map Subtype.val))<=200/\aB (·= w1.heap.size) Z U)
  (fun c pre U=>c= .ret/\(∃pre1 x,pre.map Subtype.val=pre1++ [x]/\Maps.size (fA ks pre1)=200)/\aD U (w.heap.size+1) 42 #[.slice none 0 0]/\aD U (w.heap.size+1+1) 46 #[.int .i64 4]/\Below w.heap.size w U)
  (fun s A A' h hb=>⟨h.1.below hb (by omega),h.2.1,h.2.2.later hb (a_ _)⟩)
  (fun c s A A' h hb=>⟨h.1,h.2.1,h.2.2.1.below hb (by omega),h.2.2.2.1.below hb (by omega),h.2.2.2.2.trans (hb.mono (by omega))⟩)
  ⟨zm,by simp[fA,Maps.size],aB.refl _ _⟩
  (fun pre c a' U=>∃Bx,Z.heap.size+2<=Bx/\aD U Bx 62 #[.string c.1.id,.int .i64 c.1.kind,.int .i64 c.1.arg]/\a'=Act.mk #[Value.agg #[Value.slice a ks.length cap,Value.int IntKind.i64 kind,Value.int IntKind.i64 arg],
     Value.pointer (some {block:=w.heap.size,off:=0}),
     Value.pointer (some {block:=w.heap.size+1,off:=0}),
     Value.pointer (some {block:=w.heap.size+1+1,off:=0}),
     Value.pointer (some {block:=w1.heap.size+1,off:=0}),Value.pointer (some {block:=Bx,off:=0}),
     Value.agg #[Value.slice a ks.length cap,Value.int IntKind.i64 kind,Value.int IntKind.i64 arg],
     Value.bool true,Value.bool false,Value.map (some w1.heap.size),
     Value.agg #[Value.slice a ks.length cap,Value.int IntKind.i64 kind,Value.int IntKind.i64 arg],
     Value.func (Fn.func 144) #[] #[Value.pointer (some {block:=w1.heap.size+1+1,off:=0})],
     Value.agg #[.string c.1.id,.int .i64 c.1.kind,.int .i64 c.1.arg],undef,
     undef,undef,undef,undef,undef,undef,undef,undef,undef,undef] [])
  (fun pre c a' A A' h hk=>by
   obtain⟨Bx,e1,e2,e3⟩:=h;exact⟨Bx,e1,e2.kept hk (by omega),e3⟩) ?assign ?body ?done ?stop
 case assign=>
  rintro l' pre' ⟨⟨id',k',x'⟩,hmem⟩ U K ⟨hmU,hsU,hkU⟩ hszU hK;simp only[fG]
  gi_wp2
  exact hK _ _ (aB.alloc _ _ _) ⟨hmU.kept (aB.alloc (fun _=>False) _ _) (fun h=>h),hsU,hkU.trans (aB.alloc _ _ _)⟩ ⟨U.heap.size,hszU,aD.new U _ _,rfl⟩
 case body=>
  rintro l' pre' ⟨⟨id',k',x'⟩,hmem⟩ a' U ⟨hmU,hsU,hkU⟩ ⟨Bx,hBx,bX,rfl⟩ hszU;simp only at bX;have ya:=za.kept hkU (by omega);have y1:=z1.kept hkU (by omega);have y2:=z2.kept hkU (by omega);have y3:=z3.kept hkU (by omega);have ca:=ya.cell (o:=0) rfl;obtain⟨L,hL⟩:∃L,pre'.map Subtype.val=L:=⟨_,rfl⟩;rw[hL]at hmU hsU;have HLL:Hid (pre'.map Subtype.val=L):=hL;clear hL;have hlen:=World.ownsMap.len (show U.ownsMap prog 9 (plainElem prog 3) w1.heap.size (Maps.size (fA ks L)) (fA ks L)from hmU) underlying99 3;have hbU:Below w.heap.size w U:=hbwZ.trans (hkU.below (by omega) (fun k e=>by omega));by_cases h200:Maps.size (fA ks L)=200
  ·have ht:((Maps.size (fA ks L):Int)==200)=true:=by rw[h200];rfl
   have c2:=y2.cell (o:=0) rfl;have f2:=y2.frozen 0;have c3:=y3.cell (o:=0) rfl;have f3:=y3.frozen 0;have H2:Hid (Maps.size (fA ks L)=200):=h200;clear h200
   gi_wp2
   refine⟨(((aB.refl _ U).setCell (.inl (by simp;omega)) _)).setCell (.inl (by simp;omega)) _,rfl,⟨L,⟨id',k',x'⟩,by rw[<-HLL.out];simp,H2.out⟩,Boxed.other (Boxed.set _ y2) (by omega) _,Boxed.set _ (Boxed.other y3 (by omega) _),?_⟩;exact(hbU.setCell (p:=⟨w.heap.size+1,0,none⟩) (by simp) _).setCell (p:=⟨w.heap.size+1+1,0,none⟩) (by simp;omega) _
  ·have ht:((Maps.size (fA ks L):Int)==200)=false:=by rw[g_];omega
   have p0:=y1.cell (o:=0) rfl;have p1:=y1.cell (o:=1) rfl;have p2:=y1.cell (o:=2) rfl;have x0:=bX.cell (o:=0) rfl;have x1:=bX.cell (o:=1) rfl;have x2:=bX.cell (o:=2) rfl;have hG:=hmem;obtain⟨g0,g1,g2,g3⟩:=hmem;simp only at g0 g1 g2 g3;have kU:bH (fun b=>True/\b < w.heap.size) U (.slice a ks.length cap) ks:=kZ.kept hkU (fun b h=>by omega);have HV:Hid (∀U',Below U.heap.size U U'->Calls prog 85 #[.agg #[.slice a ks.length cap,.int .i64 kind,.int .i64 arg],.agg #[.string id',.int .i64 k',.int .i64 x']] U' fun e w'=>
     e= .returned (.agg #[.string id',.int .i64 (cQ ks ⟨id',k',x'⟩)])/\Below U.heap.size U w'/\w'.cell? ⟨w1.heap.size+1,0,none⟩=some (.map (some w1.heap.size))/\(∀o,(w'.alloc o).cell? ⟨w1.heap.size+1,0,none⟩=some (.map (some w1.heap.size)))/\(∀o,Below U.heap.size U (w'.alloc o))):=fun U' hU'=>by
    refine(wY (.slice a ks.length cap) kind arg ks ⟨id',k',x'⟩ _ U' (kU.kept (aB.of_below (X:=fun k=>U.heap.size<=k) hU' (fun _ _ h=>h)) (fun b h=>by omega)) hprog g0 g1 g2 (by dsimp only;omega)).mono ?_;rintro e w' ⟨rfl,hb⟩;have hb':=hU'.trans (hb.mono hU'.size);have hc:=(hb'.cell (p:=⟨w1.heap.size+1,0,none⟩) (by simp;omega)).trans ca;exact⟨rfl,hb',hc,fun o=>cE o hc,fun o=>hb'.alloc hb'.size o⟩
   have HKp:Hid (∀(U':World) (b:Nat),Below U.heap.size U U'->U'.cell? ⟨b,0,none⟩=some (.string id')->U'.cell? ⟨b,1,none⟩=some (.int .i64 (cQ ks ⟨id',k',x'⟩))->b < U'.heap.size->Calls prog 84 #[.map (some w1.heap.size),.slice (some ⟨b,0,none⟩) 1 1] U' fun e w'=>
     ∃u,e= .returned u/\eZ w' w1.heap.size (fA ks (L++ [⟨id',k',x'⟩]))/\aB (·= w1.heap.size) U w'):=fun U' b hU' c0 c1 hb=>by
    refine(tX w1.heap.size b 0 (fA ks L) id' (cQ ks ⟨id',k',x'⟩) U' (hmU.below hU' (by omega)) (by omega) (by omega) (tM hprog hG) c0 c1 hb).mono ?_;rintro e w' ⟨⟨u,rfl⟩,h1,h2⟩;exact⟨u,rfl,by rw[qQ];exact h1,(aB.of_below hU' (fun k h h'=>by omega)).trans h2⟩
   have hfV:Fence.wide.fn 85:=trivial;have hfK:Fence.wide.fn 84:=trivial;have hd:Below U.heap.size U U.drew:=(e_ _ _).drew
   gi_wp2
   gi_region_with (first
    |((try refine⟨fun h=>(by cases h),?_⟩);gi_at_call 85;refine(CallsIn.inRound l' (callsIn_wide.2 (HV.out _ (by assumption)))).mono ?_;rintro e w' ⟨rfl,hb5,c5,c6,hb6⟩)
    |((try refine⟨fun h=>(by cases h),?_⟩);gi_at_call 84;refine(CallsIn.inRound l' (callsIn_wide.2 (HKp.out _ _ (by first|assumption|exact hb6 _) (by simp) (by simp) (by simp)))).mono ?_;rintro e w' ⟨u,rfl,hm5,hk5⟩))
   all_goals
    gi_wp2
    have he:(pre'++ [(⟨⟨id',k',x'⟩,hG⟩:mQ ks)]).map Subtype.val=L++ [⟨id',k',x'⟩]:=by rw[List.map_append,HLL.out];rfl
    refine⟨hk5,?_⟩;show eZ _ _ (fA ks ((pre'++ [(⟨⟨id',k',x'⟩,hG⟩:mQ ks)]).map Subtype.val))/\Maps.size (fA ks ((pre'++ [(⟨⟨id',k',x'⟩,hG⟩:mQ ks)]).map Subtype.val))<=200/\_;rw[he];exact⟨hm5,by have:=aDv ks L ⟨id',k',x'⟩;omega,hkU.trans hk5⟩
 case done=>
  rintro Dd xs U hD hS ⟨hmU,hsU,hkU⟩ hK;rw[hS]at hmU hsU;have hne:(dH ks kind arg).Pairwise (fun a b=>eM a≠eM b):=HO.imp fun h e=>by rw[e]at h;exact List.lt_irrefl _ h
  have hlen:=((oV ks _ (dH ks kind arg) rfl).2.2 hne).1;have hle:(dH ks kind arg).length<=200:=by omega
  have ya:=za.kept hkU (by omega);have y2:=z2.kept hkU (by omega);have y3:=z3.kept hkU (by omega);have ca:=ya.cell (o:=0) rfl;have hbU:Below w.heap.size w U:=hbwZ.trans (hkU.below (by omega) (fun k e=>by omega));have hDs:=(h_.1 hK).1;have HL:Hid (Calls prog 46 #[.map (some w1.heap.size)] U fun e w'=>e= .returned (.slice (some ⟨U.heap.size,0,none⟩) (dH ks kind arg).length (dH ks kind arg).length)/\
    w'.ownsRow U.heap.size 92 2 (.slice (some ⟨U.heap.size,0,none⟩) (dH ks kind arg).length (dH ks kind arg).length) (dH ks kind arg).length (nD ks (dH ks kind arg))/\Below U.heap.size U w'/\
    w'.cell? ⟨w.heap.size+1,0,none⟩=some (.slice none 0 0)/\w'.frozen? ⟨w.heap.size+1,0,none⟩=false/\w'.cell? ⟨w.heap.size+1+1,0,none⟩=some (.int .i64 0)/\w'.frozen? ⟨w.heap.size+1+1,0,none⟩=false/\aD w' (w.heap.size+1) 42 #[Value.slice none 0 0]/\aD w' (w.heap.size+1+1) 46 #[Value.int IntKind.i64 0]):=by
   refine(xY _ _ _ hmU (by omega)).mono ?_;rintro e w' ⟨ss,hss,rfl,hrow,hb⟩;obtain⟨h1,h2⟩:=aGq ks (dH ks kind arg) HO hss;rw[h1,h2]at hrow;rw[h1];have x2:=y2.below hb y2.lt;have x3:=y3.below hb y3.lt;exact⟨rfl,hrow,hb,x2.cell (o:=0) rfl,x2.frozen 0,x3.cell (o:=0) rfl,x3.frozen 0,x2,x3⟩
  have HU:Hid (eC ks kind arg=(0,dH ks kind arg)):=by simp[Hid,eC,hprog,hle]
  have hfL:Fence.wide.fn 46:=trivial
  gi_wp2_with ((try refine⟨fun h=>(by cases h),?_⟩);gi_at_call 46;refine(callsIn_wide.2 HL.out).mono ?_;rintro e U1 ⟨rfl,hrow,hb2,c2,f2,c3,f3,x2,x3⟩)
  obtain⟨T,hT⟩:∃T,((U1.setCell {block:=w.heap.size+1,off:=0} (Value.slice (some {block:=U.heap.size,off:=0}) (dH ks kind arg).length (dH ks kind arg).length)).setCell {block:=w.heap.size+1+1,off:=0} (Value.int IntKind.i64 0))=T:=⟨_,rfl⟩;have t2:aD T (w.heap.size+1) 42 #[.slice (some ⟨U.heap.size,0,none⟩) (dH ks kind arg).length (dH ks kind arg).length]:=by
   rw[<-hT];exact Boxed.other (Boxed.set _ x2) (by omega) _
  have t3:aD T (w.heap.size+1+1) 46 #[.int .i64 0]:=by
   rw[<-hT];exact Boxed.set _ (Boxed.other x3 (by omega) _)
  have hkT:aB (fun k=>k=w.heap.size+1\/k=w.heap.size+1+1) U1 T:=by
   rw[<-hT];exact((aB.refl _ _).setCell (.inl (.inl rfl)) _).setCell (.inl (.inr rfl)) _
  rw[hT];clear hT;have hK':T.heap[Dd]?= some (.deferred (some [])):=hkT.heap ((hb2.block Dd hDs).trans hK) (by omega);refine⟨by simp,.inl ⟨_,_,rfl,run_takeDeferred hK',?_⟩⟩;have hkF:aB (·= Dd) T (T.putObj Dd (.deferred none)):=aB.putObj _ _ _ rfl;have e2:=(t2.kept hkF (by omega)).cell (o:=0) rfl;have e3:=(t3.kept hkF (by omega)).cell (o:=0) rfl;refine⟨.tuple #[.slice (some ⟨U.heap.size,0,none⟩) (dH ks kind arg).length (dH ks kind arg).length,.int .i64 0],by simp[results,Tryz.f35,go_sem,e2,e3],.slice (some ⟨U.heap.size,0,none⟩) (dH ks kind arg).length (dH ks kind arg).length,?_,?_,?_⟩
  ·rw[HU.out]
  ·rw[HU.out]
   refine aP (X:=fun k=>k=w.heap.size+1\/k=w.heap.size+1+1\/k=Dd) hrow ((hkT.mono (fun k _ h=>by omega)).trans (hkF.mono (fun k _ h=>by omega))) ?_ hbU.size;intro g hg;simp[Value.ownBlock]at hg;have:=y3.lt;omega
  ·refine(hbU.trans (hb2.mono hbU.size)).trans ?_
   have s1:=hb2.size;have s2:=hbU.size;have s3:=hkT.size;exact(hkT.below (by omega) (fun k e=>by omega)).trans (hkF.below (by omega) (fun k e=>by omega))
 case stop=>
  rintro Dd c pre' U hD hpre ⟨rfl,⟨pre1,x,hpx,hs200⟩,b2,b3,hbU⟩ hK;have hlt:¬(dH ks kind arg).length<=200:=by
   rw[hpx]at hpre;obtain⟨r,hr⟩:=hpre;have hne:(dH ks kind arg).Pairwise (fun a b=>eM a≠eM b):=HO.imp fun h e=>by rw[e]at h;exact List.lt_irrefl _ h
   rw[<-hr,List.append_assoc]at hne;have h1:=((oV ks _ pre1 rfl).2.2 (List.pairwise_append.1 hne).1).1;rw[<-hr];simp;omega
  gi_wp2
  refine⟨by simp,.inl ⟨_,_,rfl,run_takeDeferred hK,?_⟩⟩;have hkF:aB (·= Dd) U (U.putObj Dd (.deferred none)):=aB.putObj _ _ _ rfl;have t2:=(b2.kept hkF (by omega)).cell (o:=0) rfl;have t3:=(b3.kept hkF (by omega)).cell (o:=0) rfl;refine⟨.tuple #[.slice none 0 0,.int .i64 4],by simp[results,Tryz.f35,go_sem,t2,t3],.slice none 0 0,?_,?_,hbU.trans (hkF.below hbU.size (fun k e=>by omega))⟩
  ·simp[eC,hprog,hlt]
  ·simp only[eC,hprog,hlt,↓reduceIte];exact World.ownsRow_nil _ _ _ _
end Go.Proofs.YtfanaanofjhlkaaGreatDoor
