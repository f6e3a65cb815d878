import Derived.RangeFuncNested
import Derived.RangeFuncBound
import Derived.RangeFuncCalls
import Derived.RangeFuncLeaves
import Derived.WalkKit
import Derived.Test.YtfanaanofjhlkaaGreatDoorProg
import Derived.BigQuiet
import Derived.Deep.QuietTactic
import Derived.Shelf.Abstract
import Derived.Shelf.RegionOpen
import Derived.OwnWalkIn
import Derived.TacticsInMore
import Derived.LoopNIn
import Derived.LoopIn
import Derived.Deep.RegionHeld3
import Derived.Maps.OwnSet
import Derived.Maps.OwnIn
import Derived.Shelf.SlGeneric
import Derived.Shelf.SlIter.Nil
import Derived.Shelf.SortM.Plain
import Derived.Shelf.SortM.SortNone
import Derived.Ground.GgzProg
import Derived.Ground.SlgmProg
import Derived.WalkSmall
namespace Go.Proofs.YtfanaanofjhlkaaGreatDoor
open Go Go.RowKit
structure Kept(X:Nat->Prop)(W W':World):Prop where
 os:W'.os=W.os
 tape:W'.tape=W.tape
 output:W'.output=W.output
 size:W.heap.size<=W'.heap.size
 block:∀k,k < W.heap.size->¬X k->W'.heap[k]?= W.heap[k]?
theorem Kept.refl(X:Nat->Prop)(W:World):Kept X W W:=⟨rfl,rfl,rfl,Nat.le_refl _,fun _ _ _=>rfl⟩
theorem Kept.trans{X:Nat->Prop}{A B C:World}(h:Kept X A B)(k:Kept X B C):Kept X A C:=
 ⟨k.os.trans h.os,k.tape.trans h.tape,k.output.trans h.output,Nat.le_trans h.size k.size,
  fun i hi hx=>(k.block i (Nat.lt_of_lt_of_le hi h.size) hx).trans (h.block i hi hx)⟩
theorem Kept.mono{X Y:Nat->Prop}{A B:World}(h:Kept X A B)(hy:∀k,k < A.heap.size->X k->Y k):Kept Y A B:=
 ⟨h.os,h.tape,h.output,h.size,fun k hk hx=>h.block k hk (fun hX=>hx (hy k hk hX))⟩
theorem Kept.of_below{X:Nat->Prop}{B:Nat}{W W':World}(h:Below B W W')(hX:∀k,k < W.heap.size->B<=k->X k):Kept X W W':=
 ⟨h.os,h.tape,h.output,h.size,fun k hk hx=>h.block k (Nat.lt_of_not_le fun hB=>hx (hX k hk hB))⟩
theorem Kept.below{X:Nat->Prop}{B:Nat}{W W':World}(h:Kept X W W')(hB:B<=W.heap.size)(hX:∀k,X k->B<=k):Below B W W':=
 ⟨h.os,h.tape,h.output,h.size,fun k hk=>h.block k (Nat.lt_of_lt_of_le hk hB) (fun hx=>Nat.not_lt_of_le (hX k hx) hk)⟩
theorem Kept.later{X:Nat->Prop}{A B C:World}(h:Kept X A B){n:Nat}(hb:Below n B C)(hn:A.heap.size<=n):Kept X A C:=
 ⟨hb.os.trans h.os,hb.tape.trans h.tape,hb.output.trans h.output,Nat.le_trans h.size hb.size,fun k hk hx=>(hb.block k (Nat.lt_of_lt_of_le hk hn)).trans (h.block k hk hx)⟩
theorem Kept.heap{X:Nat->Prop}{W W':World}(h:Kept X W W'){k:Nat}{o:Obj}(hk:W.heap[k]?= some o)(hx:¬X k):W'.heap[k]?= some o:=
 (h.block k (Array.getElem?_eq_some_iff.1 hk).1 hx).trans hk
theorem Kept.alloc(X:Nat->Prop)(W:World)(o:Obj):Kept X W (W.alloc o):=
 Kept.of_below ((Below.refl W.heap.size W).alloc (Nat.le_refl _) o) (fun _ h h'=>absurd h (Nat.not_lt_of_le h'))
theorem Kept.grown{X:Nat->Prop}{W W':World}{row:Option Nat}(hg:W.grownBy W' row)(hx:∀r,row=some r->X r):Kept X W W':=
 ⟨hg.os,hg.tape,hg.output,hg.size,fun k hk hn=>hg.block k hk (fun e=>hn (hx k e.symm))⟩
theorem Kept.putObj{X:Nat->Prop}(W:World)(l:Nat)(o:Obj)(hx:X l):Kept X W (W.putObj l o):=
 Kept.grown (grownBy_putObj' W l o) (fun r e=>by cases e;exact hx)
theorem Kept.cell{X:Nat->Prop}{W W':World}(h:Kept X W W'){p:Addr}(hk:p.block < W.heap.size)(hx:¬X p.block):W'.cell? p=W.cell? p:=
 World.cell?_of_block (w:=W) (h.block p.block hk hx)
theorem Kept.drew{X:Nat->Prop}{A W:World}(h:Kept X A W):Kept X A W.drew:=⟨h.os,h.tape,h.output,h.size,h.block⟩
theorem Kept.setCell{X:Nat->Prop}{A W:World}(h:Kept X A W){p:Addr}(hp:X p.block\/A.heap.size<=p.block)(u:Value):Kept X A (W.setCell p u):=by
 have b:Below p.block W (W.setCell p u):=(Below.refl _ W).setCell (Nat.le_refl _) u
 refine⟨b.os.trans h.os,b.tape.trans h.tape,b.output.trans h.output,Nat.le_trans h.size b.size,fun k hk hx=> ?_⟩
 refine(Below.heap_setCell W p u k (fun e=> ?_)).trans (h.block k hk hx)
 subst e
 rcases hp with hp|hp
 ·exact hx hp
 ·omega
theorem Kept.andThen{X Y:Nat->Prop}{A B C:World}(h:Kept X A B)(k:Kept Y B C)(hy:∀b,b < A.heap.size->Y b->X b):Kept X A C:=
 ⟨k.os.trans h.os,k.tape.trans h.tape,k.output.trans h.output,Nat.le_trans h.size k.size,fun b hb hx=>(k.block b (Nat.lt_of_lt_of_le hb h.size) (fun hY=>hx (hy b hb hY))).trans (h.block b hb hx)⟩
def SeqX{α:Type}(F:Fence)(n:Nat)(P:Program)(g:Nat)(lb:Array Value)(encs:α->Array Value)(X:Nat->Prop)(S Sp:List α->Prop)(W:World):Prop:=
 ∀(l:Nat) (J Jx:List α->World->Prop),(∀s A B,J s A->Below W.heap.size A B->J s B)->(∀s A B,Jx s A->Below W.heap.size A B->Jx s B)->
  (∀pre x W1,J pre W1->W.heap.size<=W1.heap.size->YieldAt F (n - 1) P l (encs x) W1 fun e W'=>
   (e= .returned (.bool true)/\J (pre++ [x]) W'/\Kept X W1 W')\/(e= .returned (.bool false)/\Jx (pre++ [x]) W'/\Kept (·< W.heap.size) W1 W'))->
  J [] W->
  CallsIn F n P g (#[.func (.yield l) #[] #[]]++lb) W fun e W'=>(∃v,e= .returned v)/\((∃xs,S xs/\J xs W')\/(∃pre,Sp pre/\Jx pre W'))
def roundEnds{α:Type}(B:Nat)(X:Nat->Prop)(I:List α->World->Prop)(Ix:Code->List α->World->Prop)(xs:List α)(W:World):Exit->Act->World->Prop
 | .normal,_,W'=>Kept X W W'/\I xs W'
 | .ret,_,W'=>Kept (·< B) W W'/\Ix .ret xs W'
 | .exit id,_,W'=>Kept (·< B) W W'/\Ix (.exit id) xs W'
 | .goto t,_,W'=>Kept (·< B) W W'/\Ix (.goto t) xs W'
 | .panic _,_,_=>False
 | .outgrown,_,_=>False
variable {F:Fence} {n:Nat} {P:Program}
theorem range_law{α:Type}{g:Operand}{ps:Array Tmp}{assign body:Code}{Q:Exit->Act->World->Prop}{a:Act}{w:World}
  (hro:F.round=none) (h1:F.depth.isSome=true->1<=n) {gf:Nat} {lb:Array Value} (hg:a.eval g= .func (.func gf) #[] lb) (hFg:F.fn gf) (eg:∀args w,(callFunc gf args).run P w= .ok (.enter gf args) w)
  {encs:α->Array Value} {S Sp:List α->Prop} (X:Nat->Prop) (hX:∀k,X k->k < w.heap.size)
  (hseq:∀W,Below w.heap.size w W->W.heap.size=w.heap.size+2->SeqX F (n - 1) P gf lb encs (fun k=>X k\/k=w.heap.size+1) S Sp W)
  (hps:∀x,(encs x).size=ps.size)
  (I:List α->World->Prop) (Ix:Code->List α->World->Prop) (hI:∀s A B,I s A->Below w.heap.size A B->I s B) (hIx:∀c s A B,Ix c s A->Below w.heap.size A B->Ix c s B) (h0:I [] w)
  (Ax:List α->α->Act->World->Prop) (hAx:∀pre x a' A B,Ax pre x a' A->Kept (·= w.heap.size+1) A B->Ax pre x a' B)
  (hassign:∀(l:Nat) (pre:List α) (x:α) (W:World) (K:Act->World->Prop),I pre W->w.heap.size+2<=W.heap.size->(∀a' W',Kept X W W'->I pre W'->Ax pre x a' W'->K a' W')->
   assign.wpIn (F.inRound l) (n - 1 - 1) P (Exit.then K (fun _ _ _=>False)) {tmps:=(ps.zip (encs x)).foldl (fun t (p,v)=>t.setIfInBounds p v) a.tmps,defers:=[]} W)
  (hbody:∀(l:Nat) (pre:List α) (x:α) (a':Act) (W:World),I pre W->Ax pre x a' W->w.heap.size+2<=W.heap.size->body.wpIn (F.inRound l) (n - 1 - 1) P (roundEnds w.heap.size X I Ix (pre++ [x]) W) a' W)
  (hdone:∀(D:Nat) (xs:List α) (W:World),w.heap.size<=D->S xs->I xs W->W.heap[D]?= some (.deferred (some []))->Q .normal {a with defers:={target:= .collected D,args:=#[]} :: a.defers} W)
  (hstop:∀(D:Nat) (c:Code) (pre:List α) (W:World),w.heap.size<=D->Sp pre->Ix c pre W->W.heap[D]?= some (.deferred (some []))->c.wpIn F n P Q {a with defers:={target:= .collected D,args:=#[]} :: a.defers} W) :
  (Code.rangeFunc g ps assign body).wpIn F n P Q a w:=by
 refine wpIn_rangeFunc fun fn hfn=> ?_
 rw[hro]
 obtain⟨rec,hrec⟩:∃rec:LoopState->Option Code->Loop,rec=fun st pe=>{state:=st,pending:=pe,fn,tmps:=a.tmps,params:=ps,assign,body,defers:=w.heap.size}:=⟨_,rfl⟩
 obtain⟨V,hV⟩:∃V,(w.alloc (.deferred (some []))).alloc (.loop (rec .ready none))=V:=⟨_,rfl⟩
 have vsize:V.heap.size=w.heap.size+2:=by rw[<-hV];simp
 have vbelow:Below w.heap.size w V:=by
  rw[<-hV];exact((Below.refl _ w).alloc (Nat.le_refl _) _).alloc (by simp) _
 have vloop:V.heap[w.heap.size+1]?= some (.loop (rec .ready none)):=by
  have h:=World.alloc_heap_new (w.alloc (.deferred (some []))) (.loop (rec .ready none))
  rw[World.size_alloc]at h;rw[<-hV];exact h
 have vdef:V.heap[w.heap.size]?= some (.deferred (some [])):=by
  rw[<-hV];exact(Below.heap_alloc _ _ _ (by simp)).trans (World.alloc_heap_new w _)
 refine⟨w.heap.size+1,[{target:= .collected w.heap.size,args:=#[]}],V,{target:= .fn (.func gf) lb,args:=#[.func (.yield (w.heap.size+1)) #[] #[]]},V,gf,
  #[.func (.yield (w.heap.size+1)) #[] #[]]++lb,V,?_,?_,?_,?_,h1,?_⟩
 ·rw[<-hV,hrec];exact run_enterLoop_outer _ _ _ _ _
 ·simp only[resolve,hg];simp[go_sem]
 ·intro f' hf';simp[Target.leads]at hf';subst hf';exact hFg
 ·simp[invoke,go_sem,eg]
 have lift:∀{A B:World},Below V.heap.size A B->Below w.heap.size A B:=fun h=>h.mono (by omega)
 refine(hseq V vbelow vsize (w.heap.size+1)
   (fun pre W=>I pre W/\W.heap[w.heap.size+1]?= some (.loop (rec .ready none))/\W.heap[w.heap.size]?= some (.deferred (some [])))
   (fun pre W=>∃c,Ix c pre W/\W.heap[w.heap.size+1]?= some (.loop (rec .done (some c)))/\W.heap[w.heap.size]?= some (.deferred (some [])))
   (fun s A B hs hb=>⟨hI s A B hs.1 (lift hb),(hb.block _ (by omega)).trans hs.2.1,(hb.block _ (by omega)).trans hs.2.2⟩)
   (fun s A B hs hb=>by
    obtain⟨c,hc,hl,hk⟩:=hs
    exact⟨c,hIx c s A B hc (lift hb),(hb.block _ (by omega)).trans hl,(hb.block _ (by omega)).trans hk⟩)
   ?_ ⟨hI _ _ _ h0 vbelow,vloop,vdef⟩).mono ?_
 ·rintro pre x W ⟨hi,hl,hk⟩ hsz
  rw[vsize]at hsz
  have hy:=run_yield (P:=P) (args:=encs x) hl (by rw[hrec];exact hps x)
  rw[hrec]at hy
  refine⟨fn,_,assign,body,hy,roundIn_of_wpIn hfn (hassign _ pre x W _ hi hsz fun a' U kU iU aU=> ?_)⟩
  clear hy
  have nX:∀k,w.heap.size<=k->¬X k:=fun k hk hx=>Nat.not_lt_of_le hk (hX k hx)
  have ul:=kU.heap hl (nX _ (by omega))
  have uk:=kU.heap hk (nX _ (Nat.le_refl _))
  have usz:w.heap.size+2<=U.heap.size:=Nat.le_trans hsz kU.size
  refine⟨_,run_beginRound ul (by rw[hrec]),?_⟩
  obtain⟨T,hT⟩:∃T,U.putObj (w.heap.size+1) (.loop {rec .ready none with state:= .busy})=T:=⟨_,rfl⟩
  rw[hT]
  have kT:Kept (·= w.heap.size+1) U T:=by rw[<-hT];exact Kept.putObj _ _ _ rfl
  have tl:T.heap[w.heap.size+1]?= some (.loop {rec .ready none with state:= .busy}):=by rw[<-hT];exact World.putObj_heap_same (by omega)
  have tk:T.heap[w.heap.size]?= some (.deferred (some [])):=kT.heap uk (by omega)
  have toB:∀{A B:World},w.heap.size<=A.heap.size->Kept (·= w.heap.size+1) A B->Below w.heap.size A B:=fun h k=>k.below h (fun _ e=>by omega)
  refine wpIn_mono (hbody _ pre x a' T (hI _ _ _ iU (toB (by omega) kT)) (hAx _ _ _ _ _ aU kT) (Nat.le_trans usz kT.size)) ?_
  have fin:∀(jump:Option Code) (Z:World),Kept (·< w.heap.size) T Z->∃Z',(Instr.endRound (w.heap.size+1) jump).run P Z= .ok (.bool jump.isNone) Z'/\
    Kept (·= w.heap.size+1) Z Z'/\Z'.heap[w.heap.size+1]?= some (.loop (rec (if jump.isNone then .ready else .done) jump))/\Z'.heap[w.heap.size]?= some (.deferred (some [])):=fun jump Z kZ=>by
   have zl:=kZ.heap tl (by omega)
   have zk:=kZ.heap tk (by omega)
   have zr:=run_endRound (P:=P) jump zl
   rw[hrec]at zr zl ⊢
   exact⟨_,zr,Kept.putObj _ _ _ rfl,World.putObj_heap_same (Array.getElem?_eq_some_iff.1 zl).1,(World.putObj_heap_other (by omega)).trans zk⟩
  have kS:∀{Z:World},Kept X T Z->Kept (·< w.heap.size) T Z:=fun h=>h.mono (fun k _ hx=>hX k hx)
  have leave:∀(c:Code) (Z:World),Kept (·< w.heap.size) T Z->Ix c (pre++ [x]) Z->∃v Z',(Instr.endRound (w.heap.size+1) (some c)).run P Z= .ok v Z'/\
    ((Ending.returned v= .returned (.bool true)/\(I (pre++ [x]) Z'/\Z'.heap[w.heap.size+1]?= some (.loop (rec .ready none))/\Z'.heap[w.heap.size]?= some (.deferred (some [])))/\Kept (fun k=>X k\/k=w.heap.size+1) W Z')\/
     (Ending.returned v= .returned (.bool false)/\(∃c,Ix c (pre++ [x]) Z'/\Z'.heap[w.heap.size+1]?= some (.loop (rec .done (some c)))/\Z'.heap[w.heap.size]?= some (.deferred (some [])))/\Kept (·< V.heap.size) W Z')):=fun c Z kZ hi3=>by
   obtain⟨Z',hr,kZ',hl4,hk4⟩:=fin (some c) Z kZ
   refine⟨_,Z',hr,.inr ⟨rfl,⟨c,hIx c _ _ _ hi3 (toB (Nat.le_trans (by omega) (Nat.le_trans kT.size kZ.size)) kZ'),hl4,hk4⟩,?_⟩⟩
   have b1:Kept (·< V.heap.size) W U:=kU.mono (fun k _ hx=>by have:=hX k hx;omega)
   exact((b1.trans (kT.mono (fun k _ e=>by omega))).trans (kZ.mono (fun k _ e=>by omega))).trans (kZ'.mono (fun k _ e=>by omega))
  rintro e a3 Z hp
  cases e with
  |normal=>
   obtain⟨kZ,hi3⟩:=hp
   obtain⟨Z',hr,kZ',hl4,hk4⟩:=fin none Z (kS kZ)
   refine⟨_,Z',hr,.inl ⟨rfl,⟨hI _ _ _ hi3 (toB (Nat.le_trans (by omega) (Nat.le_trans kT.size kZ.size)) kZ'),hl4,hk4⟩,?_⟩⟩
   exact(((kU.mono (fun k _ h=> .inl h)).trans (kT.mono (fun k _ h=> .inr h))).trans (kZ.mono (fun k _ h=> .inl h))).trans (kZ'.mono (fun k _ h=> .inr h))
  |ret=>exact leave .ret Z hp.1 hp.2
  |exit id=>exact leave (.exit id) Z hp.1 hp.2
  |goto t=>exact leave (.goto t) Z hp.1 hp.2
  |panic ch=>exact hp.elim
  |outgrown=>exact hp.elim
 ·rintro e Z ⟨⟨v,rfl⟩,(⟨xs,hS,hi,hl,hk⟩|⟨pre,hSp,c,hi,hl,hk⟩)⟩
  ·have hlt:=(Array.getElem?_eq_some_iff.1 hl).1
   refine⟨none,_,by have:=run_endLoop (P:=P) hl (by rw[hrec];simp);rw[hrec]at this;exact this,hdone _ xs _ (Nat.le_refl _) hS (hI _ _ _ hi ?_) ((World.putObj_heap_other (by omega)).trans hk)⟩
   exact(Kept.putObj (X:=(·= w.heap.size+1)) _ _ _ rfl).below (by omega) (fun _ e=>by omega)
  ·have hlt:=(Array.getElem?_eq_some_iff.1 hl).1
   refine⟨some c,_,by have:=run_endLoop (P:=P) hl (by rw[hrec];simp);rw[hrec]at this;exact this,hstop _ c pre _ (Nat.le_refl _) hSp (hIx c _ _ _ hi ?_) ((World.putObj_heap_other (by omega)).trans hk)⟩
   exact(Kept.putObj (X:=(·= w.heap.size+1)) _ _ _ rfl).below (by omega) (fun _ e=>by omega)
structure KidS where
 kind:Int
 less:Int
structure KindS where
 A:Int
 B:Int
 kids:List KidS
structure TaskS where
 id:ByteArray
 kind:Int
 arg:Int
def numB(k n:Int):Bool:=decide (0<=k/\k<=n - 1)
def rangeB(x lo hi:Int):Bool:=decide (lo<=x/\x<=hi)
def kidB(n:Int)(c:KidS):Bool:=numB c.kind n&&rangeB c.less 1 9
def kindB(n:Int)(k:KindS):Bool:=rangeB k.A (-1000) 1000&&rangeB k.B (-1000) 1000&&decide (k.kids.length<=3)&&k.kids.all (kidB n)
def progB(ks:List KindS)(kind arg:Int):Bool:=rangeB ks.length 1 5&&ks.all (kindB ks.length)&&numB kind ks.length&&rangeB arg 0 12
def digit(i:Nat):UInt8:=UInt8.ofNat (48+i)
def kidId(id:ByteArray)(i:Nat):ByteArray:=id++⟨#[digit i]⟩
def childrenFrom(id:ByteArray)(x:Int):Nat->List KidS->List TaskS
 |_,[]=>[]
 |i,c :: r=>if c.less<=x then⟨kidId id i,c.kind,x - c.less⟩ :: childrenFrom id x (i+1) r else childrenFrom id x (i+1) r
def kindAt(ks:List KindS)(k:Int):KindS:=ks[k.toNat]?.getD ⟨0,0,[]⟩
def children(ks:List KindS)(t:TaskS):List TaskS:=childrenFrom t.id t.arg 0 (kindAt ks t.kind).kids
def tree(ks:List KindS):Nat->TaskS->List TaskS
 |0,t=>[t]
 |f+1,t=>t :: (children ks t).flatMap (tree ks f)
def valueOf(ks:List KindS)(t:TaskS):Int:=(kindAt ks t.kind).A*t.arg+(kindAt ks t.kind).B
def taskV(t:TaskS):Value:= .agg #[.string t.id,.int .i64 t.kind,.int .i64 t.arg]
def KidsAt(ok:Nat->Prop)(W:World)(v:Value)(l:List KidS):Prop:=
 ∃a cap,v= .slice a l.length cap/\∀j c,l[j]?= some c->∃b o,a=some ⟨b,o,none⟩/\ok b/\b < W.heap.size/\
  W.cell? ⟨b,o+j*2,none⟩=some (.int .i64 c.kind)/\W.cell? ⟨b,o+j*2+1,none⟩=some (.int .i64 c.less)
def KindsAt(ok:Nat->Prop)(W:World)(v:Value)(l:List KindS):Prop:=
 ∃a cap,v= .slice a l.length cap/\∀j k,l[j]?= some k->∃b o kv,a=some ⟨b,o,none⟩/\ok b/\b < W.heap.size/\
  W.cell? ⟨b,o+j*3,none⟩=some (.int .i64 k.A)/\W.cell? ⟨b,o+j*3+1,none⟩=some (.int .i64 k.B)/\W.cell? ⟨b,o+j*3+2,none⟩=some kv/\KidsAt ok W kv k.kids
theorem KidsAt.kept{ok X:Nat->Prop}{W W':World}{v:Value}{l:List KidS}(h:KidsAt ok W v l)(k:Kept X W W')(hx:∀b,ok b->¬X b):KidsAt ok W' v l:=by
 obtain⟨a,cap,rfl,hc⟩:=h
 refine⟨a,cap,rfl,fun j c hj=> ?_⟩
 obtain⟨b,o,ha,hok,hb,c0,c1⟩:=hc j c hj
 exact⟨b,o,ha,hok,Nat.lt_of_lt_of_le hb k.size,(k.cell (p:=⟨b,_,none⟩) hb (hx b hok)).trans c0,(k.cell (p:=⟨b,_,none⟩) hb (hx b hok)).trans c1⟩
theorem KindsAt.kept{ok X:Nat->Prop}{W W':World}{v:Value}{l:List KindS}(h:KindsAt ok W v l)(k:Kept X W W')(hx:∀b,ok b->¬X b):KindsAt ok W' v l:=by
 obtain⟨a,cap,rfl,hc⟩:=h
 refine⟨a,cap,rfl,fun j c hj=> ?_⟩
 obtain⟨b,o,kv,ha,hok,hb,c0,c1,c2,hk⟩:=hc j c hj
 exact⟨b,o,kv,ha,hok,Nat.lt_of_lt_of_le hb k.size,(k.cell (p:=⟨b,_,none⟩) hb (hx b hok)).trans c0,(k.cell (p:=⟨b,_,none⟩) hb (hx b hok)).trans c1,(k.cell (p:=⟨b,_,none⟩) hb (hx b hok)).trans c2,hk.kept k hx⟩
theorem KidsAt.below{ok:Nat->Prop}{W:World}{v:Value}{l:List KidS}(h:KidsAt ok W v l):KidsAt (fun b=>ok b/\b < W.heap.size) W v l:=by
 obtain⟨a,cap,rfl,hc⟩:=h
 refine⟨a,cap,rfl,fun j c hj=> ?_⟩
 obtain⟨b,o,ha,hok,hb,c0,c1⟩:=hc j c hj
 exact⟨b,o,ha,⟨hok,hb⟩,hb,c0,c1⟩
theorem KindsAt.below{ok:Nat->Prop}{W:World}{v:Value}{l:List KindS}(h:KindsAt ok W v l):KindsAt (fun b=>ok b/\b < W.heap.size) W v l:=by
 obtain⟨a,cap,rfl,hc⟩:=h
 refine⟨a,cap,rfl,fun j c hj=> ?_⟩
 obtain⟨b,o,kv,ha,hok,hb,c0,c1,c2,hk⟩:=hc j c hj
 exact⟨b,o,kv,ha,⟨hok,hb⟩,hb,c0,c1,c2,hk.below⟩
def BoxAt(W:World)(B:Nat)(t:TypeId)(cs:Array Value):Prop:=W.heap[B]?= some (.cells cs t (0,0))
theorem BoxAt.lt{W:World}{B:Nat}{t:TypeId}{cs:Array Value}(h:BoxAt W B t cs):B < W.heap.size:=(Array.getElem?_eq_some_iff.1 h).1
theorem BoxAt.cell{W:World}{B:Nat}{t:TypeId}{cs:Array Value}(h:BoxAt W B t cs){o:Nat}{v:Value}(hv:cs[o]?= some v):W.cell? ⟨B,o,none⟩=some v:=by
 simp[World.cell?,show W.heap[B]?= _ from h,hv]
theorem BoxAt.frozen{W:World}{B:Nat}{t:TypeId}{cs:Array Value}(h:BoxAt W B t cs)(o:Nat):W.frozen? ⟨B,o,none⟩=false:=by
 simp[World.frozen?,show W.heap[B]?= _ from h]
theorem BoxAt.new(W:World)(t:TypeId)(cs:Array Value):BoxAt (W.alloc (.cells cs t)) W.heap.size t cs:=World.alloc_heap_new W _
theorem BoxAt.kept{X:Nat->Prop}{W W':World}{B:Nat}{t:TypeId}{cs:Array Value}(h:BoxAt W B t cs)(k:Kept X W W')(hx:¬X B):BoxAt W' B t cs:=k.heap h hx
theorem BoxAt.below{n:Nat}{W W':World}{B:Nat}{t:TypeId}{cs:Array Value}(h:BoxAt W B t cs)(k:Below n W W')(hx:B < n):BoxAt W' B t cs:=(k.block B hx).trans h
theorem BoxAt.alloc{W:World}{B:Nat}{t:TypeId}{cs:Array Value}(h:BoxAt W B t cs)(o:Obj):BoxAt (W.alloc o) B t cs:=(Below.heap_alloc W o B h.lt).trans h
theorem cell_alloc{w:World}{a:Addr}{v:Value}(o:Obj)(h:w.cell? a=some v):(w.alloc o).cell? a=some v:=
 cell_kept h (World.grownBy_alloc w o none) (fun r e=>by cases e)
theorem cell_alloc3{w:World}{a:Addr}{v:Value}(h:w.cell? a=some v)(o1 o2 o3:Obj):(((w.alloc o1).alloc o2).alloc o3).cell? a=some v:=
 cell_alloc o3 (cell_alloc o2 (cell_alloc o1 h))
set_option maxHeartbeats 400000 in
theorem within_calls(n lo hi:Int)(w:World) :
  Calls Tryz.prog 141 #[.int .i64 n,.int .i64 lo,.int .i64 hi] w fun e w'=>e= .returned (.bool (rangeB n lo hi))/\w'=w:=by
 by_cases h1:lo<=n
 ·by_cases h2:n<=hi
  ·go_enter Tryz.func141,Tryz.ntmps141
   go_wp2
   go_ret
   exact⟨by simp[rangeB,h1,h2],rfl⟩
  ·go_enter Tryz.func141,Tryz.ntmps141
   go_wp2
   go_ret
   exact⟨by simp[rangeB,h2],rfl⟩
 ·go_enter Tryz.func141,Tryz.ntmps141
  go_wp2
  go_ret
  exact⟨by simp[rangeB];omega,rfl⟩
set_option maxHeartbeats 400000 in
theorem isNumber_calls(k n:Int)(h0:0<=n)(h1:n<=9223372036854775807)(w:World) :
  Calls Tryz.prog 143 #[.int .i64 k,.int .i64 n] w fun e w'=>e= .returned (.bool (numB k n))/\w'=w:=by
 go_enter Tryz.func143,Tryz.ntmps143
 go_wp2_with (go_at_call 141;refine(within_calls _ _ _ _).mono ?_;rintro e w' ⟨rfl,rfl⟩)
 go_ret
 exact⟨by simp[rangeB,numB],rfl⟩
theorem kindB_at(n A B:Int)(l:List KidS)(hA:rangeB A (-1000) 1000=true)(hB:rangeB B (-1000) 1000=true)(h3:l.length<=3):kindB n ⟨A,B,l⟩=l.all (kidB n):=by
 simp[kindB,hA,hB,h3]
theorem all_drop_get{α:Type}(p:α->Bool)(l:List α)(k:Nat)(c:α)(h:l[k]?= some c):(l.drop k).all p=(p c&&(l.drop (k+1)).all p):=by
 have hk:=(List.getElem?_eq_some_iff.1 h).1
 have he:=(List.getElem?_eq_some_iff.1 h).2
 rw[List.drop_eq_getElem_cons hk,List.all_cons,he]
set_option maxHeartbeats 1000000 in
theorem isKind_calls(A B n:Int)(kv:Value)(l:List KidS)(ok:Nat->Prop)(h0:0<=n)(h1:n<=9223372036854775807)(w:World)(hk:KidsAt ok w kv l)(hl:l.length<=9223372036854775806) :
  Calls Tryz.prog 142 #[.agg #[.int .i64 A,.int .i64 B,kv],.int .i64 n] w fun e w'=>e= .returned (.bool (kindB n ⟨A,B,l⟩))/\Below w.heap.size w w':=by
 obtain⟨a,cap,rfl,hc⟩:=hk
 by_cases hA:rangeB A (-1000) 1000=true
 case neg=>
  go_enter Tryz.func142,Tryz.ntmps142
  go_wp2_with (go_at_call 141;refine(within_calls _ _ _ _).mono ?_;rintro e w' ⟨rfl,rfl⟩)
  go_ret
  exact⟨by simp[kindB,hA],(Below.refl _ _).alloc (Nat.le_refl _) _⟩
 by_cases hB:rangeB B (-1000) 1000=true
 case neg=>
  go_enter Tryz.func142,Tryz.ntmps142
  go_wp2_with (go_at_call 141;refine(within_calls _ _ _ _).mono ?_;rintro e w' ⟨rfl,rfl⟩)
  go_ret
  exact⟨by simp[kindB,hB],(Below.refl _ _).alloc (Nat.le_refl _) _⟩
 by_cases h3:l.length<=3
 case neg=>
  go_enter Tryz.func142,Tryz.ntmps142
  go_wp2_with (go_at_call 141;refine(within_calls _ _ _ _).mono ?_;rintro e w' ⟨rfl,rfl⟩)
  go_ret
  exact⟨by simp[kindB,h3],(Below.refl _ _).alloc (Nat.le_refl _) _⟩
 have HK:Hid (kindB n ⟨A,B,l⟩=l.all (kidB n)):=kindB_at n A B l hA hB h3
 go_enter Tryz.func142,Tryz.ntmps142
 go_wp2_with (go_at_call 141;refine(within_calls _ _ _ _).mono ?_;rintro e w' ⟨rfl,rfl⟩)
 go_loopw [24] (fun i wr=>∃k:Nat,k<=l.length/\i= .int .i64 k/\l.all (kidB n)=(l.drop k).all (kidB n)/\Below w.heap.size w wr) (fun i _=>l.length - (intOf i).toNat)
 case atStart=>exact⟨0,Nat.zero_le _,rfl,rfl,(Below.refl _ _).alloc (Nat.le_refl _) _⟩
 case round=>
  obtain⟨k,hk,rfl,hall,hb⟩:=hrel
  have HA:Hid (l.all (kidB n)=(l.drop k).all (kidB n)):=hall
  clear hall
  by_cases hlt:k < l.length
  ·obtain⟨c,hcc⟩:∃c,l[k]?= some c:=⟨_,List.getElem?_eq_getElem hlt⟩
   obtain⟨b,o,rfl,hok,hbw,c0,c1⟩:=hc k c hcc
   have d0:=(hb.cell (p:=⟨b,o+k*2,none⟩) hbw).trans c0
   have d1:=(hb.cell (p:=⟨b,o+k*2+1,none⟩) hbw).trans c1
   have HS:Hid ((l.drop k).all (kidB n)=(kidB n c&&(l.drop (k+1)).all (kidB n))):=all_drop_get _ l k c hcc
   clear hc c0 c1
   by_cases hn:numB c.kind n=true
   ·by_cases hr:rangeB c.less 1 9=true
    ·go_wp2_with (first
      |(go_at_call 143;refine(isNumber_calls _ _ h0 h1 _).mono ?_;rintro e w' ⟨rfl,rfl⟩)
      |(go_at_call 141;refine(within_calls _ _ _ _).mono ?_;rintro e w' ⟨rfl,rfl⟩))
     go_roundw
     case rel=>exact⟨k+1,by omega,by go_num,by rw[HA.out,HS.out];simp[kidB,hn,hr],hb.trans ((Below.refl _ _).alloc hb.size _)⟩
     case measure=>simp[intOf];omega
    ·go_wp2_with (first
      |(go_at_call 143;refine(isNumber_calls _ _ h0 h1 _).mono ?_;rintro e w' ⟨rfl,rfl⟩)
      |(go_at_call 141;refine(within_calls _ _ _ _).mono ?_;rintro e w' ⟨rfl,rfl⟩))
     go_ret
     exact⟨by rw[HK.out,HA.out,HS.out];simp[kidB,hr],hb.trans ((Below.refl _ _).alloc hb.size _)⟩
   ·go_wp2_with (first
      |(go_at_call 143;refine(isNumber_calls _ _ h0 h1 _).mono ?_;rintro e w' ⟨rfl,rfl⟩)
      |(go_at_call 141;refine(within_calls _ _ _ _).mono ?_;rintro e w' ⟨rfl,rfl⟩))
    go_ret
    exact⟨by rw[HK.out,HA.out,HS.out];simp[kidB,hn],hb.trans ((Below.refl _ _).alloc hb.size _)⟩
  ·go_wp2_with fail
   go_ret
   exact⟨by rw[HK.out,HA.out,List.drop_eq_nil_of_le (by omega)];rfl,hb⟩
set_option maxHeartbeats 1000000 in
theorem isProgram_calls(kv:Value)(kind arg:Int)(ks:List KindS)(ok:Nat->Prop)(w:World)(hk:KindsAt ok w kv ks)(hl:ks.length<=9223372036854775806)(hl2:∀k∈ks,k.kids.length<=9223372036854775806) :
  Calls Tryz.prog 82 #[.agg #[kv,.int .i64 kind,.int .i64 arg]] w fun e w'=>e= .returned (.bool (progB ks kind arg))/\Below w.heap.size w w':=by
 obtain⟨a,cap,rfl,hc⟩:=hk
 by_cases hR:rangeB ks.length 1 5=true
 case neg=>
  go_enter Tryz.func82,Tryz.ntmps82
  go_wp2_with (go_at_call 141;refine(within_calls _ _ _ _).mono ?_;rintro e w' ⟨rfl,rfl⟩)
  go_ret
  exact⟨by simp[progB,hR],(Below.refl _ _).alloc (Nat.le_refl _) _⟩
 go_enter Tryz.func82,Tryz.ntmps82
 go_wp2_with (go_at_call 141;refine(within_calls _ _ _ _).mono ?_;rintro e w' ⟨rfl,rfl⟩)
 go_loopw [13] (fun i wr=>∃k:Nat,k<=ks.length/\i= .int .i64 k/\ks.all (kindB ks.length)=(ks.drop k).all (kindB ks.length)/\Below w.heap.size w wr/\BoxAt wr w.heap.size 41 #[.slice a ks.length cap,.int .i64 kind,.int .i64 arg]) (fun i _=>ks.length - (intOf i).toNat)
 case atStart=>exact⟨0,Nat.zero_le _,rfl,rfl,(Below.refl _ _).alloc (Nat.le_refl _) _,BoxAt.new _ _ _⟩
 case round=>
  obtain⟨k,hk,rfl,hall,hb,hbox⟩:=hrel
  have HA:Hid (ks.all (kindB ks.length)=(ks.drop k).all (kindB ks.length)):=hall
  clear hall
  have HB:Hid (BoxAt wr w.heap.size 41 #[.slice a ks.length cap,.int .i64 kind,.int .i64 arg]):=hbox
  have hlt':=hbox.lt
  have b0:=hbox.cell (o:=0) rfl
  have b1:=hbox.cell (o:=1) rfl
  have b2:=hbox.cell (o:=2) rfl
  clear hbox
  by_cases hlt:k < ks.length
  ·obtain⟨c,hcc⟩:∃c,ks[k]?= some c:=⟨_,List.getElem?_eq_getElem hlt⟩
   obtain⟨b,o,kv,rfl,hok,hbw,c0,c1,c2,hkk⟩:=hc k c hcc
   have d0:=(hb.cell (p:=⟨b,o+k*3,none⟩) hbw).trans c0
   have d1:=(hb.cell (p:=⟨b,o+k*3+1,none⟩) hbw).trans c1
   have d2:=(hb.cell (p:=⟨b,o+k*3+2,none⟩) hbw).trans c2
   have HS:Hid ((ks.drop k).all (kindB ks.length)=(kindB ks.length c&&(ks.drop (k+1)).all (kindB ks.length))):=all_drop_get _ ks k c hcc
   have hcl:=hl2 c (List.mem_of_getElem? hcc)
   obtain⟨A,B,kids⟩:=c
   obtain⟨a',cap',rfl,h'⟩:=hkk
   have HW:Hid (∀o:Obj,Calls Tryz.prog 142 #[.agg #[.int .i64 A,.int .i64 B,.slice a' kids.length cap'],.int .i64 ks.length] (wr.alloc o) fun e w'=>e= .returned (.bool (kindB ks.length ⟨A,B,kids⟩))/\Below (wr.alloc o).heap.size (wr.alloc o) w'):=fun o=>
    isKind_calls A B ks.length _ kids (fun _=>True) (by omega) (by omega) _ (by
     refine⟨a',cap',rfl,fun j c hj=> ?_⟩
     obtain⟨b',o',ha,_,hb',e0,e1⟩:=h' j c hj
     have hz:=hb.size
     exact⟨b',o',ha,trivial,by simp;omega,((hb.trans ((Below.refl _ _).alloc hb.size _)).cell (p:=⟨b',_,none⟩) hb').trans e0,((hb.trans ((Below.refl _ _).alloc hb.size _)).cell (p:=⟨b',_,none⟩) hb').trans e1⟩) (by simpa using hcl)
   simp only at d0 d1 d2
   clear hc h' c0 c1 c2
   by_cases hkB:kindB ks.length ⟨A,B,kids⟩=true
   ·go_wp2_with fail
    refine(HW.out _).mono ?_
    rintro e w' ⟨rfl,hb1⟩
    go_wp2_with fail
    go_roundw
    case rel=>exact⟨k+1,by omega,by go_num,by rw[HA.out,HS.out];simp[hkB],(hb.trans ((Below.refl _ _).alloc hb.size _)).trans (hb1.mono (by have:=hb.size;simp;omega)),(HB.out.alloc _).below hb1 (by simp;omega)⟩
    case measure=>simp[intOf];omega
   ·go_wp2_with fail
    refine(HW.out _).mono ?_
    rintro e w' ⟨rfl,hb1⟩
    go_wp2_with fail
    go_ret
    exact⟨by simp only[progB];rw[HA.out,HS.out];simp[hkB],(hb.trans ((Below.refl _ _).alloc hb.size _)).trans (hb1.mono (by have:=hb.size;simp;omega))⟩
  ·have hall:Hid (ks.all (kindB ks.length)=true):=by rw[HA.out,List.drop_eq_nil_of_le (by omega)];rfl
   by_cases hn:numB kind ks.length=true
   ·go_wp2_with (first
      |(go_at_call 143;refine(isNumber_calls _ _ (by omega) (by omega) _).mono ?_;rintro e w' ⟨rfl,rfl⟩)
      |(go_at_call 141;refine(within_calls _ _ _ _).mono ?_;rintro e w' ⟨rfl,rfl⟩))
    go_ret
    exact⟨by simp[progB,hall.out,hR,hn],hb⟩
   ·go_wp2_with (first
      |(go_at_call 143;refine(isNumber_calls _ _ (by omega) (by omega) _).mono ?_;rintro e w' ⟨rfl,rfl⟩)
      |(go_at_call 141;refine(within_calls _ _ _ _).mono ?_;rintro e w' ⟨rfl,rfl⟩))
    go_ret
    exact⟨by simp[progB,hn],hb⟩
set_option maxHeartbeats 400000 in
theorem small_calls(i:Nat)(hi:i < 10)(w:World) :
  Calls Tryz.prog 227 #[.int .i64 i] w fun e w'=>e= .returned (.string ⟨#[digit i]⟩)/\w'=w:=by
 have h:i=0\/i=1\/i=2\/i=3\/i=4\/i=5\/i=6\/i=7\/i=8\/i=9:=by omega
 rcases h with rfl|rfl|rfl|rfl|rfl|rfl|rfl|rfl|rfl|rfl
 all_goals
  go_enter Tryz.func227,Tryz.ntmps227
  go_wp2
  go_ret
  exact⟨rfl,rfl⟩
set_option maxHeartbeats 400000 in
theorem formatInt_calls(i:Nat)(hi:i < 10)(w:World) :
  Calls Tryz.prog 217 #[.int .i64 i,.int .i64 10] w fun e w'=>e= .returned (.string ⟨#[digit i]⟩)/\w'=w:=by
 go_enter Tryz.func217,Tryz.ntmps217
 go_wp2_with (go_at_call 227;refine(small_calls i hi _).mono ?_;rintro e w' ⟨rfl,rfl⟩)
 go_ret
 exact⟨rfl,rfl⟩
set_option maxHeartbeats 400000 in
theorem itoa_calls(i:Nat)(hi:i < 10)(w:World) :
  Calls Tryz.prog 171 #[.int .i64 i] w fun e w'=>e= .returned (.string ⟨#[digit i]⟩)/\w'=w:=by
 have h2:Calls Tryz.prog 196 #[.int .i64 i] w fun e w'=>e= .returned (.string ⟨#[digit i]⟩)/\w'=w:=by
  go_enter Tryz.func196,Tryz.ntmps196
  go_wp2_with (go_at_call 217;refine(formatInt_calls i hi _).mono ?_;rintro e w' ⟨rfl,rfl⟩)
  go_ret
  exact⟨rfl,rfl⟩
 go_enter Tryz.func171,Tryz.ntmps171
 go_wp2_with (go_at_call 196;refine h2.mono ?_;rintro e w' ⟨rfl,rfl⟩)
 go_ret
 exact⟨rfl,rfl⟩
set_option maxHeartbeats 400000 in
theorem first_calls(a:Option Addr)(len cap:Nat)(kind arg:Int)(w:World) :
  Calls Tryz.prog 50 #[.agg #[.slice a len cap,.int .i64 kind,.int .i64 arg]] w fun e w'=>e= .returned (taskV ⟨⟨#[]⟩,kind,arg⟩)/\Below w.heap.size w w':=by
 go_enter Tryz.func50,Tryz.ntmps50
 go_wp2
 refine bodyPost_ret (v:=taskV ⟨⟨#[]⟩,kind,arg⟩) (by simp[results,Tryz.results50,go_sem,taskV]) rfl ⟨rfl,?_⟩
 exact((Below.refl _ _).alloc (Nat.le_refl _) _).alloc (by simp) _
set_option maxHeartbeats 1000000 in
theorem value_calls(kv:Value)(kind arg:Int)(ks:List KindS)(t:TaskS)(ok:Nat->Prop)(w:World)(hk:KindsAt ok w kv ks)(hp:progB ks kind arg=true)(h0:0<=t.kind)(h1:t.kind < ks.length)(h2:0<=t.arg)(h3:t.arg<=12) :
  Calls Tryz.prog 85 #[.agg #[kv,.int .i64 kind,.int .i64 arg],taskV t] w fun e w'=>e= .returned (.agg #[.string t.id,.int .i64 (valueOf ks t)])/\Below w.heap.size w w':=by
 obtain⟨id,k,x⟩:=t
 obtain⟨a,cap,rfl,hc⟩:=hk
 simp only at h0 h1 h2 h3
 obtain⟨j,rfl⟩:=Int.eq_ofNat_of_zero_le h0
 have hj:j < ks.length:=by omega
 obtain⟨c,hcc⟩:∃c,ks[j]?= some c:=⟨_,List.getElem?_eq_getElem hj⟩
 obtain⟨b,o,v,rfl,hok,hbw,c0,c1,c2,hkk⟩:=hc j c hcc
 obtain⟨a',cap',rfl,h'⟩:=hkk
 have hkb:kindB ks.length c=true:=by
  simp[progB]at hp
  exact hp.1.1.2 c (List.mem_of_getElem? hcc)
 have hA: -1000<=c.A/\c.A<=1000:=by simp[kindB,rangeB]at hkb;omega
 have hB: -1000<=c.B/\c.B<=1000:=by simp[kindB,rangeB]at hkb;omega
 have HV:Hid (valueOf ks ⟨id,(j:Int),x⟩=c.A*x+c.B):=by simp[Hid,valueOf,kindAt,hcc]
 have hlen:ks.length<=5:=by simp[progB,rangeB]at hp;omega
 have hm1: -12000<=c.A*x:=by
  have:=Int.mul_le_mul_of_nonneg_right hA.1 h2;omega
 have hm2:c.A*x<=12000:=by
  have:=Int.mul_le_mul_of_nonneg_right hA.2 h2;omega
 clear hc h' hp hkb
 have e0:=cell_alloc3 c0
 have e1:=cell_alloc3 c1
 have e2:=cell_alloc3 c2
 unfold taskV
 go_enter Tryz.func85,Tryz.ntmps85
 go_wp2
 refine bodyPost_ret (v:= .agg #[.string id,.int .i64 (c.A*x+c.B)]) (by simp[results,Tryz.results85,go_sem]) rfl ⟨?_,?_⟩
 ·rw[HV.out]
 ·exact((((Below.refl _ _).alloc (Nat.le_refl _) _).alloc (by simp) _).alloc (by simp;omega) _).alloc (by simp;omega) _
set_option maxHeartbeats 400000 in
theorem tasks_in(F:Fence)(n:Nat)(hf:F.fn 83)(hro:F.round=none)(a:Option Addr)(len cap:Nat)(kind arg:Int)(w:World) :
  CallsIn F n Tryz.prog 83 #[.agg #[.slice a len cap,.int .i64 kind,.int .i64 arg]] w fun e w'=>e= .returned (.func (.func 144) #[] #[.pointer (some ⟨w.heap.size,0,none⟩)])/\w'=w.alloc (.cells #[.slice a len cap,.int .i64 kind,.int .i64 arg] 41):=by
 refine callsIn_of_wp Tryz.func83 rfl hf ?_ hro
 simp only[Tryz.ntmps83,List.size_toArray,List.length_cons,List.length_nil,Nat.reduceAdd,Nat.reduceSub,Array.replicate_succ,Array.replicate_zero,List.push_toArray,List.append_toArray,List.nil_append,List.cons_append]
 gi_wp2
 go_ret
 exact⟨rfl,rfl⟩
set_option maxHeartbeats 400000 in
theorem children_in(F:Fence)(n:Nat)(hf:F.fn 115)(hro:F.round=none)(a:Option Addr)(len cap:Nat)(kind arg:Int)(id:ByteArray)(k x:Int)(w:World) :
  CallsIn F n Tryz.prog 115 #[.agg #[.slice a len cap,.int .i64 kind,.int .i64 arg],.agg #[.string id,.int .i64 k,.int .i64 x]] w fun e w'=>
   e= .returned (.func (.func 170) #[] #[.pointer (some ⟨w.heap.size,0,none⟩),.pointer (some ⟨w.heap.size+1,0,none⟩)])/\
   w'=(w.alloc (.cells #[.slice a len cap,.int .i64 kind,.int .i64 arg] 41)).alloc (.cells #[.string id,.int .i64 k,.int .i64 x] 62):=by
 refine callsIn_of_wp Tryz.func115 rfl hf ?_ hro
 simp only[Tryz.ntmps115,List.size_toArray,List.length_cons,List.length_nil,Nat.reduceAdd,Nat.reduceSub,Array.replicate_succ,Array.replicate_zero,List.push_toArray,List.append_toArray,List.nil_append,List.cons_append]
 gi_wp2
 go_ret
 exact⟨rfl,rfl⟩
end Go.Proofs.YtfanaanofjhlkaaGreatDoor
namespace Go.Proofs.YtfanaanofjhlkaaGreatDoor
open Go Go.RowKit Go.Shelf
attribute [local go_sem] Oper.semAt_some
theorem childrenFrom_get(id:ByteArray)(x:Int)(kids:List KidS)(i:Nat)(c:KidS)(h:kids[i]?= some c) :
  childrenFrom id x i (kids.drop i)=if c.less<=x then⟨kidId id i,c.kind,x - c.less⟩ :: childrenFrom id x (i+1) (kids.drop (i+1))else childrenFrom id x (i+1) (kids.drop (i+1)):=by
 have hk:=(List.getElem?_eq_some_iff.1 h).1
 have he:=(List.getElem?_eq_some_iff.1 h).2
 rw[List.drop_eq_getElem_cons hk,he]
 rfl
abbrev Of(L:List TaskS):={c:TaskS // c∈L}
set_option maxHeartbeats 1000000 in
set_option maxRecDepth 100000 in
theorem children1_seq(n:Nat)(Bp Bt:Nat)(X ok:Nat->Prop)(a:Option Addr)(cap:Nat)(kind arg:Int)(ks:List KindS)(t:TaskS)(L:List TaskS)(hL:children ks t=L)(W:World)
  (hp:BoxAt W Bp 41 #[.slice a ks.length cap,.int .i64 kind,.int .i64 arg]) (ht:BoxAt W Bt 62 #[.string t.id,.int .i64 t.kind,.int .i64 t.arg])
  (hk:KindsAt ok W (.slice a ks.length cap) ks) (hX:∀b,ok b->¬X b) (hXt:¬X Bt)
  (hprog:progB ks kind arg=true) (h0:0<=t.kind) (h1:t.kind < ks.length) (h2:0<=t.arg) (h3:t.arg<=12) (h4:t.id.size<=12) :
  SeqX Fence.wide n Tryz.prog 170 #[.pointer (some ⟨Bp,0,none⟩),.pointer (some ⟨Bt,0,none⟩)] (fun c:Of L=>#[taskV c.1]) X
   (fun xs=>xs.map Subtype.val=L) (fun pre=>pre.map Subtype.val <+: L) W:=by
 intro l J Jx hJ hJx hY hJ0
 obtain⟨id,k,x⟩:=t
 obtain⟨a',cap',hs,hc⟩:=hk
 simp only[Value.slice.injEq]at hs
 obtain⟨rfl,-,rfl⟩:=hs
 simp only at h0 h1 h2 h3 h4 ht
 obtain⟨j,rfl⟩:=Int.eq_ofNat_of_zero_le h0
 have hj:j < ks.length:=by omega
 obtain⟨c,hcc⟩:∃c,ks[j]?= some c:=⟨_,List.getElem?_eq_getElem hj⟩
 obtain⟨b,o,v,rfl,hok,hbw,c0,c1,c2,hkk⟩:=hc j c hcc
 obtain⟨a',cap',rfl,h'⟩:=hkk
 have hkb:kindB ks.length c=true:=by
  simp[progB]at hprog
  exact hprog.1.1.2 c (List.mem_of_getElem? hcc)
 have hlen:ks.length<=5:=by simp[progB,rangeB]at hprog;omega
 have hkl:c.kids.length<=3:=by simp[kindB]at hkb;exact hkb.1.2
 have hkids:∀d∈c.kids,1<=d.less/\d.less<=9/\0<=d.kind/\d.kind < ks.length:=by
  intro d hd;simp[kindB,kidB,numB,rangeB]at hkb;have:=hkb.2 d hd;omega
 have HC:Hid (L=childrenFrom id x 0 c.kids):=by rw[<-hL];simp[Hid,children,kindAt,hcc]
 have p0:=hp.cell (o:=0) rfl
 have t0:=ht.cell (o:=0) rfl
 have t1:=ht.cell (o:=1) rfl
 have t2:=ht.cell (o:=2) rfl
 clear hprog hkb hc hL
 refine callsIn_of_wp Tryz.func170 rfl trivial ?_ rfl
 simp only[Tryz.ntmps170,List.size_toArray,List.length_cons,List.length_nil,Nat.reduceAdd,Nat.reduceSub,Array.replicate_succ,Array.replicate_zero,List.push_toArray,List.append_toArray,List.nil_append,List.cons_append]
 gi_wp2
 gi_loopw [15] (fun i wr=>∃(m:Nat) (pre:List (Of L)),m<=c.kids.length/\i= .int .i64 m/\L=pre.map Subtype.val++childrenFrom id x m (c.kids.drop m)/\J pre wr/\Kept (fun k=>X k\/W.heap.size<=k) W wr)
  (fun i _=>c.kids.length - (intOf i).toNat)
 case atStart=>exact⟨0,[],Nat.zero_le _,rfl,HC.out,hJ0,Kept.refl _ _⟩
 case round=>
  obtain⟨m,pre,hm,rfl,hpre,hJs,hkw⟩:=hrel
  have HP:Hid (L=pre.map Subtype.val++childrenFrom id x m (c.kids.drop m)):=hpre
  clear hpre
  have nt:¬(X Bt\/W.heap.size<=Bt):=fun h=>h.elim hXt (fun h=>Nat.not_lt_of_le h ht.lt)
  have u0:=(ht.kept hkw nt).cell (o:=0) rfl
  have u1:=(ht.kept hkw nt).cell (o:=1) rfl
  have u2:=(ht.kept hkw nt).cell (o:=2) rfl
  have hbt:=(ht.kept hkw nt).lt
  by_cases hlt:m < c.kids.length
  ·obtain⟨d,hd⟩:∃d,c.kids[m]?= some d:=⟨_,List.getElem?_eq_getElem hlt⟩
   obtain⟨b',o',rfl,hok',hbw',d0,d1⟩:=h' m d hd
   have nb:¬(X b'\/W.heap.size<=b'):=fun h=>h.elim (hX b' hok') (fun h=>Nat.not_lt_of_le h hbw')
   have f0:=(hkw.cell (p:=⟨b',o'+m*2,none⟩) hbw' nb).trans d0
   have f1:=(hkw.cell (p:=⟨b',o'+m*2+1,none⟩) hbw' nb).trans d1
   obtain⟨hl1,hl9,hk0,hk1⟩:=hkids d (List.mem_of_getElem? hd)
   have v0:=fun o=>cell_alloc o u0
   have v2:=fun o=>cell_alloc o u2
   have HG:Hid (childrenFrom id x m (c.kids.drop m)=if d.less<=x then⟨kidId id m,d.kind,x - d.less⟩ :: childrenFrom id x (m+1) (c.kids.drop (m+1))else childrenFrom id x (m+1) (c.kids.drop (m+1))):=childrenFrom_get id x c.kids m d hd
   by_cases hless:d.less<=x
   ·gi_wp2
    refine wpIn_wide.2 ?_
    have g0:=(BoxAt.new wr 53 #[Value.int IntKind.i64 d.kind,Value.int IntKind.i64 d.less]).cell (o:=0) rfl
    have g1:=(BoxAt.new wr 53 #[Value.int IntKind.i64 d.kind,Value.int IntKind.i64 d.less]).cell (o:=1) rfl
    have z1:¬9223372036854775807 < id.size+1:=by omega
    have z2:id.size < 9223372036854775807:=by omega
    have z3:IntKind.i64.wrap (x - d.less)=x - d.less:=IntWalk.i64_in _ (by omega)
    go_region_held3 (fun w'=>w'.cell? ⟨Bt,0,none⟩=some (.string id)/\w'.cell? ⟨Bt,2,none⟩=some (.int .i64 x)/\w'.cell? ⟨wr.heap.size,0,none⟩=some (.int .i64 d.kind)/\w'.cell? ⟨wr.heap.size,1,none⟩=some (.int .i64 d.less)) (go_keep)
     (first|(go_at_call 171;refine(itoa_calls m (by omega) _).mono ?_;rintro e w' ⟨rfl,rfl⟩))
    all_goals
     obtain⟨V,hV⟩:∃V,((wr.alloc (Obj.cells #[Value.int IntKind.i64 d.kind,Value.int IntKind.i64 d.less] 53)).alloc (Obj.cells #[Value.string (id++{data:=#[digit m]}),Value.int IntKind.i64 d.kind,Value.int IntKind.i64 (x - d.less)] 62)).drew=V:=⟨_,rfl⟩
     have hbV:Below wr.heap.size wr V:=by
      rw[<-hV];exact(((Below.refl _ wr).alloc (Nat.le_refl _) _).alloc (by simp) _).drew
     have bx:BoxAt V (wr.heap.size+1) 62 #[Value.string (id++{data:=#[digit m]}),Value.int IntKind.i64 d.kind,Value.int IntKind.i64 (x - d.less)]:=by
      rw[<-hV];have:=BoxAt.new (wr.alloc (Obj.cells #[Value.int IntKind.i64 d.kind,Value.int IntKind.i64 d.less] 53)) 62 #[Value.string (id++{data:=#[digit m]}),Value.int IntKind.i64 d.kind,Value.int IntKind.i64 (x - d.less)]
      rw[World.size_alloc]at this;exact this
     have y0:=bx.cell (o:=0) rfl
     have y1:=bx.cell (o:=1) rfl
     have y2:=bx.cell (o:=2) rfl
     rw[hV]
     clear hV
     have hmem:(⟨kidId id m,d.kind,x - d.less⟩:TaskS)∈L:=by rw[HP.out,HG.out,if_pos hless];simp
     obtain⟨q,hq⟩:∃q:Of L,q.1=⟨kidId id m,d.kind,x - d.less⟩:=⟨⟨_,hmem⟩,rfl⟩
     clear hmem
     have hP2:Hid (L=(pre++ [q]).map Subtype.val++childrenFrom id x (m+1) (c.kids.drop (m+1))):=by
      refine HP.out.trans ?_
      rw[HG.out,if_pos hless];simp[hq]
     obtain⟨fn,tmps,assign,body,hy,hR⟩:=hY pre q V (hJ _ _ _ hJs (hbV.mono hkw.size)) (Nat.le_trans hkw.size hbV.size)
     rw[hq]at hy
     clear hq
     dsimp only[taskV,kidId]at hy
     gi_wp2
     refine⟨fun h=>(by cases h),?_⟩
     refine hR.mono ?_
     rintro e W3 (⟨rfl,hJ3,hk3⟩|⟨rfl,hJx3,-⟩)
     ·gi_wp2
      go_roundw
      case rel=>exact⟨m+1,_,by omega,by go_num,hP2.out,hJ3,(hkw.trans (Kept.of_below hbV (fun k _ h=> .inr (Nat.le_trans hkw.size h)))).trans (hk3.mono (fun k _ h=> .inl h))⟩
      case measure=>simp[intOf];omega
     ·gi_wp2
      refine bodyPost_ret (results_none rfl _ _ _) rfl ?_
      exact⟨⟨_,rfl⟩,.inr ⟨_,⟨_,hP2.out.symm⟩,hJx3⟩⟩
   ·have hP2:Hid (L=pre.map Subtype.val++childrenFrom id x (m+1) (c.kids.drop (m+1))):=by
     refine HP.out.trans ?_
     rw[HG.out,if_neg hless]
    gi_wp2
    go_roundw
    case rel=>exact⟨m+1,pre,by omega,by go_num,hP2.out,hJ _ _ _ hJs (((Below.refl _ wr).alloc (Nat.le_refl _) _).mono hkw.size),hkw.trans (Kept.alloc _ _ _)⟩
    case measure=>simp[intOf];omega
  ·have hP2:Hid (L=pre.map Subtype.val):=by
    refine HP.out.trans ?_
    rw[List.drop_eq_nil_of_le (by omega)];simp[childrenFrom]
   gi_wp2
   go_end0
   exact⟨⟨_,rfl⟩,.inl ⟨pre,hP2.out.symm,hJs⟩⟩
end Go.Proofs.YtfanaanofjhlkaaGreatDoor
namespace Go.Proofs.YtfanaanofjhlkaaGreatDoor
open Go Go.RowKit Go.Maps Go.WideMaps
theorem strKeyed:Keyed Tryz.prog 9:=string_keyed Tryz.underlying9
theorem zeroInt(w:World):(zeroValue 3).run Tryz.prog w= .ok (.int .i64 0) w:=by kernel_rfl
def MapIs(W:World)(M:Nat)(D:DataW Unit):Prop:=W.ownsMap Tryz.prog 9 (plainElem Tryz.prog 3) M (Maps.size D) D
def keyL(id:ByteArray):Lit:= .string id.data.toList
def elemD(v:Int):DataW Unit:= .lit (.int .i64 v)
theorem mapIs_of{W:World}{M n:Nat}{D:DataW Unit}(h:W.ownsMap Tryz.prog 9 (plainElem Tryz.prog 3) M n D):MapIs W M D:=by
 obtain⟨es,clock,hb,hf,hs,hD⟩:=h
 refine⟨es,clock,hb,hf,?_,hD⟩
 rw[hD]
 show es.size<=List.length _
 rw[length_sorted];simp
theorem MapIs.lt{W:World}{M:Nat}{D:DataW Unit}(h:MapIs W M D):M < W.heap.size:=World.ownsMap.lt h
theorem MapIs.kept{X:Nat->Prop}{W W':World}{M:Nat}{D:DataW Unit}(h:MapIs W M D)(k:Kept X W W')(hx:¬X M):MapIs W' M D:=by
 obtain⟨es,clock,hb,hf,hs,hD⟩:=h
 exact⟨es,clock,k.heap hb hx,hf,hs,hD⟩
theorem MapIs.below{n:Nat}{W W':World}{M:Nat}{D:DataW Unit}(h:MapIs W M D)(k:Below n W W')(hx:M < n):MapIs W' M D:=
 h.kept (X:=fun k=>n<=k) (Kept.of_below k (fun _ _ h=>h)) (by omega)
set_option maxHeartbeats 1000000 in
theorem keep_calls(M b o:Nat)(D:DataW Unit)(id:ByteArray)(v:Int)(w:World)(hm:MapIs w M D)(hn:Maps.size D < 100000000)(hid:id.size<=100000000)(hv:(Lit.int .i64 v).wf=true)
  (c0:w.cell? ⟨b,o,none⟩=some (.string id)) (c1:w.cell? ⟨b,o+1,none⟩=some (.int .i64 v)) (hb:b < w.heap.size) :
  Calls Tryz.prog 84 #[.map (some M),.slice (some ⟨b,o,none⟩) 1 1] w fun e w'=>(∃u,e= .returned u)/\MapIs w' M (D.put (keyL id) (elemD v))/\Kept (·= M) w w':=by
 have hMl:=hm.lt
 have hkey:keyOf Tryz.prog 9 (.string id)=some (keyL id):=keyOf_string_mk Tryz.underlying9 (by unfold maxLen;omega)
 go_enter Tryz.func84,Tryz.ntmps84
 go_wp2
 go_loopw [8] (fun i wr=>(i= .int .i64 0/\wr=w)\/(i= .int .i64 1/\MapIs wr M (D.put (keyL id) (elemD v))/\Kept (·= M) w wr)) (fun i _=>1 - (intOf i).toNat)
 case atStart=>exact .inl ⟨rfl,rfl⟩
 case round=>
  rcases hrel with⟨rfl,rfl⟩|⟨rfl,hm1,hk1⟩
  ·have hown:=(World.ownsMap.alloc (show wr.ownsMap Tryz.prog 9 (plainElem Tryz.prog 3) M (Maps.size D) D from hm) (.cells #[.string id,.int .i64 v] 92))
   go_wp2_with (first
    |(at_mapUpdate;refine wpList_mapUpdate_own _ rfl _ _ _ 99 rfl 9 3 strKeyed Tryz.underlying99 _ M (Maps.size D) _ rfl hown (by unfold maxLen;omega) _ _ _ rfl rfl hkey _ [] (plainElem_int Tryz.underlying3 hv) ?_)
    |go_in)
   intro w1 hown1 hgrow1
   go_wp2
   go_roundw
   case rel=>exact .inr ⟨rfl,mapIs_of hown1,(Kept.alloc _ _ _).trans (Kept.grown hgrow1 (fun r e=>by cases e;rfl))⟩
   case measure=>simp[intOf]
  ·go_wp2
   go_end0
   exact⟨⟨_,rfl⟩,hm1,hk1⟩
end Go.Proofs.YtfanaanofjhlkaaGreatDoor
namespace Go.Proofs
open Go.Shelf
def Tryz.keys102_ren:Go.Shelf.Ren:=⟨fun|7=>102|10=>168|n=>n,fun|23=>99|26=>9|3=>3|28=>151|0=>0|27=>150|33=>204|4=>4|n=>n,fun|n=>n⟩
theorem Tryz.keys102:Go.Proofs.SlLaysZ.n7 Tryz.prog Tryz.keys102_ren:={
 mixed:=by kernel_rfl
 f7:=⟨Tryz.f102.name,by decide,Tryz.func102.trans (congrArg some (by kernel_rfl))⟩
 f10:=⟨Tryz.f168.name,by decide,Tryz.func168.trans (congrArg some (by kernel_rfl))⟩
 t0:=Tryz.underlying0
 a0:=Tryz.isAgg0
 z0:=Tryz.sizeOf0
 v0:=Tryz.zeroValue0
 t4:=Tryz.underlying4
 a4:=Tryz.isAgg4
 z4:=Tryz.sizeOf4
 v4:=Tryz.zeroValue4
 t23:=Tryz.underlying99
 a23:=Tryz.isAgg99
 z23:=Tryz.sizeOf99
 v23:=Tryz.zeroValue99
 t26:=Tryz.underlying9
 a26:=Tryz.isAgg9
 z26:=Tryz.sizeOf9
 v26:=Tryz.zeroValue9
 t27:=Tryz.underlying150
 a27:=Tryz.isAgg150
 z27:=Tryz.sizeOf150
 v27:=Tryz.zeroValue150
 t28:=Tryz.underlying151
 a28:=Tryz.isAgg151
 z28:=Tryz.sizeOf151
 v28:=Tryz.zeroValue151
 t33:=Tryz.underlying204
 a33:=Tryz.isAgg204
 z33:=Tryz.sizeOf204
 v33:=Tryz.zeroValue204}
def Tryz.sorted101_ren:Go.Shelf.Ren:=⟨fun|6=>101|8=>166|9=>167|11=>193|13=>195|12=>194|23=>215|24=>216|14=>206|15=>207|16=>208|17=>209|18=>210|19=>211|20=>212|21=>213|22=>214|25=>221|26=>222|27=>223|28=>224|29=>225|30=>226|31=>232|n=>n,fun|26=>9|28=>151|24=>43|0=>0|3=>3|37=>227|48=>243|50=>245|4=>4|40=>235|39=>234|45=>240|5=>5|9=>9|51=>247|55=>251|57=>258|58=>259|33=>204|n=>n,fun|n=>n⟩
theorem Tryz.sorted101:Go.Proofs.SlLaysZ.n6 Tryz.prog Tryz.sorted101_ren:={
 mixed:=by kernel_rfl
 f6:=⟨Tryz.f101.name,by decide,Tryz.func101.trans (congrArg some (by kernel_rfl))⟩
 f8:=⟨Tryz.f166.name,by decide,Tryz.func166.trans (congrArg some (by kernel_rfl))⟩
 f11:=⟨Tryz.f193.name,by decide,Tryz.func193.trans (congrArg some (by kernel_rfl))⟩
 t0:=Tryz.underlying0
 a0:=Tryz.isAgg0
 z0:=Tryz.sizeOf0
 v0:=Tryz.zeroValue0
 t24:=Tryz.underlying43
 a24:=Tryz.isAgg43
 z24:=Tryz.sizeOf43
 v24:=Tryz.zeroValue43
 t26:=Tryz.underlying9
 a26:=Tryz.isAgg9
 z26:=Tryz.sizeOf9
 v26:=Tryz.zeroValue9
 t28:=Tryz.underlying151
 a28:=Tryz.isAgg151
 z28:=Tryz.sizeOf151
 v28:=Tryz.zeroValue151
 i26:=by kernel_rfl}
def Tryz.sort167_ren:Go.Shelf.Ren:=⟨fun|6=>167|8=>195|9=>194|19=>215|20=>216|21=>206|22=>207|23=>208|24=>209|25=>210|26=>211|27=>212|28=>213|29=>214|36=>221|31=>222|32=>223|37=>224|38=>225|39=>226|41=>232|n=>n,fun|27=>43|29=>9|3=>3|32=>227|26=>43|0=>0|44=>243|46=>245|4=>4|36=>235|35=>234|41=>240|5=>5|9=>9|53=>247|57=>251|63=>258|64=>259|n=>n,fun|n=>n⟩
theorem Tryz.sort167:Go.Proofs.SlLaysM.n6 Tryz.prog Tryz.sort167_ren:={
 mixed:=by kernel_rfl
 f6:=⟨Tryz.f167.name,by decide,Tryz.func167.trans (congrArg some (by kernel_rfl))⟩
 f8:=Tryz.func195.trans (congrArg some (by kernel_rfl))
 f9:=⟨Tryz.f194.name,by decide,Tryz.func194.trans (congrArg some (by kernel_rfl))⟩
 f19:=Tryz.func215.trans (congrArg some (by kernel_rfl))
 f20:=Tryz.func216.trans (congrArg some (by kernel_rfl))
 f21:=⟨Tryz.f206.name,by decide,Tryz.func206.trans (congrArg some (by kernel_rfl))⟩
 f22:=⟨Tryz.f207.name,by decide,Tryz.func207.trans (congrArg some (by kernel_rfl))⟩
 f23:=⟨Tryz.f208.name,by decide,Tryz.func208.trans (congrArg some (by kernel_rfl))⟩
 f24:=⟨Tryz.f209.name,by decide,Tryz.func209.trans (congrArg some (by kernel_rfl))⟩
 f25:=⟨Tryz.f210.name,by decide,Tryz.func210.trans (congrArg some (by kernel_rfl))⟩
 f26:=⟨Tryz.f211.name,by decide,Tryz.func211.trans (congrArg some (by kernel_rfl))⟩
 f27:=⟨Tryz.f212.name,by decide,Tryz.func212.trans (congrArg some (by kernel_rfl))⟩
 f28:=⟨Tryz.f213.name,by decide,Tryz.func213.trans (congrArg some (by kernel_rfl))⟩
 f29:=⟨Tryz.f214.name,by decide,Tryz.func214.trans (congrArg some (by kernel_rfl))⟩
 f31:=Tryz.func222.trans (congrArg some (by kernel_rfl))
 f32:=Tryz.func223.trans (congrArg some (by kernel_rfl))
 f36:=⟨Tryz.f221.name,by decide,Tryz.func221.trans (congrArg some (by kernel_rfl))⟩
 f37:=⟨Tryz.f224.name,by decide,Tryz.func224.trans (congrArg some (by kernel_rfl))⟩
 f38:=⟨Tryz.f225.name,by decide,Tryz.func225.trans (congrArg some (by kernel_rfl))⟩
 f39:=⟨Tryz.f226.name,by decide,Tryz.func226.trans (congrArg some (by kernel_rfl))⟩
 f41:=⟨Tryz.f232.name,by decide,Tryz.func232.trans (congrArg some (by kernel_rfl))⟩
 t0:=Tryz.underlying0
 a0:=Tryz.isAgg0
 z0:=Tryz.sizeOf0
 v0:=Tryz.zeroValue0
 t3:=Tryz.underlying3
 a3:=Tryz.isAgg3
 z3:=Tryz.sizeOf3
 v3:=Tryz.zeroValue3
 t4:=Tryz.underlying4
 a4:=Tryz.isAgg4
 z4:=Tryz.sizeOf4
 v4:=Tryz.zeroValue4
 t5:=Tryz.underlying5
 a5:=Tryz.isAgg5
 z5:=Tryz.sizeOf5
 v5:=Tryz.zeroValue5
 t9:=Tryz.underlying9
 a9:=Tryz.isAgg9
 z9:=Tryz.sizeOf9
 v9:=Tryz.zeroValue9
 t26:=Tryz.underlying43
 a26:=Tryz.isAgg43
 z26:=Tryz.sizeOf43
 v26:=Tryz.zeroValue43
 t27:=Tryz.underlying43
 a27:=Tryz.isAgg43
 z27:=Tryz.sizeOf43
 v27:=Tryz.zeroValue43
 t29:=Tryz.underlying9
 a29:=Tryz.isAgg9
 z29:=Tryz.sizeOf9
 v29:=Tryz.zeroValue9
 t32:=Tryz.underlying227
 a32:=Tryz.isAgg227
 z32:=Tryz.sizeOf227
 v32:=Tryz.zeroValue227
 t35:=Tryz.underlying234
 a35:=Tryz.isAgg234
 z35:=Tryz.sizeOf234
 v35:=Tryz.zeroValue234
 t36:=Tryz.underlying235
 a36:=Tryz.isAgg235
 z36:=Tryz.sizeOf235
 v36:=Tryz.zeroValue235
 t41:=Tryz.underlying240
 a41:=Tryz.isAgg240
 z41:=Tryz.sizeOf240
 v41:=Tryz.zeroValue240
 t44:=Tryz.underlying243
 a44:=Tryz.isAgg243
 z44:=Tryz.sizeOf243
 v44:=Tryz.zeroValue243
 t46:=Tryz.underlying245
 a46:=Tryz.isAgg245
 z46:=Tryz.sizeOf245
 v46:=Tryz.zeroValue245
 t53:=Tryz.underlying247
 a53:=Tryz.isAgg247
 z53:=Tryz.sizeOf247
 v53:=Tryz.zeroValue247
 t57:=Tryz.underlying251
 a57:=Tryz.isAgg251
 z57:=Tryz.sizeOf251
 v57:=Tryz.zeroValue251
 t63:=Tryz.underlying258
 a63:=Tryz.isAgg258
 z63:=Tryz.sizeOf258
 v63:=Tryz.zeroValue258
 t64:=Tryz.underlying259
 a64:=Tryz.isAgg259
 z64:=Tryz.sizeOf259
 v64:=Tryz.zeroValue259}
end Go.Proofs
namespace Go.Proofs
open Go.RowKit Go.Maps Go.Sort Go.Shelf
theorem Tryz.sorts101(m:Nat):AnyZ.SortsIn Tryz.prog Tryz.sorted101_ren Fence.wide m:=
 ⟨fun blk off cap ss W hH hblk hsz=>callsIn_wide.2 (AnyM.slices_Sort_string Tryz.sort167 blk off cap ss W hH hblk hsz),
  fun p cap W=>callsIn_wide.2 (AnyM.slices_Sort_string_none Tryz.sort167 p cap W)⟩
theorem Tryz.maps_Keys_102(mb:Option Nat)(W:World):CallsIn Fence.wide 5 Tryz.prog 102 #[.map mb] W fun e w'=>e= .returned (.func (.func 168) #[] #[.pointer (some ⟨W.heap.size,0,none⟩)])/\w'=W.alloc (.cells #[.map mb] 99):=
 AnyZ.keys_in Tryz.keys102 Fence.wide 5 trivial rfl mb W
set_option maxHeartbeats 1000000 in
theorem Tryz.slices_Sorted_keys_101_102{H:Type}(b nn:Nat)(D0:DataW H)(R:Value->Option (DataW H×List MemPlace))(w:World)(hown:w.ownsMap Tryz.prog 9 R b nn D0)(hmax:Maps.size D0<=maxLen)(hbytes:Maps.size D0*16<=140737488355328) :
  CallsIn Fence.wide 5 Tryz.prog 101 #[.func (.func 168) #[] #[.pointer (some ⟨w.heap.size,0,none⟩)]] (w.alloc (.cells #[.map (some b)] 99)) fun e w'=>∃(v:Value) (ss:List (List UInt8)),e= .returned v/\ss.Perm (strKeys D0)/\
   w'.ownsRow (w.alloc (.cells #[.map (some b)] 99)).heap.size 9 1 v ss.length ((ss.mergeSort (fun x y=>decide (x<=y))).map encStr)/\(v= .slice none 0 0 ↔ ss=[])/\Below (w.alloc (.cells #[.map (some b)] 99)).heap.size (w.alloc (.cells #[.map (some b)] 99)) w':=by
 have hbl:=hown.lt
 have hseq:SeqGives Fence.wide 2 Tryz.prog 168 #[.pointer (some ⟨w.heap.size,0,none⟩)] encStr (fun ss=>ss.Perm (strKeys D0)) (Maps.size D0) (w.alloc (.cells #[.map (some b)] 99)):=
  AnyZ.keys_gives (ρ:=Tryz.keys102_ren) {Tryz.keys102 with} Fence.wide _ trivial rfl (by omega) w.heap.size b nn D0 _ (by simp) (by simp) (by
   obtain⟨es,clock,hb,Ft,hs,hD⟩:=hown
   exact⟨es,clock,(Below.heap_alloc _ _ b hbl).trans hb,Ft,hs,hD⟩)
 exact AnyZ.sorted_in Tryz.sorted101 Fence.wide 5 trivial trivial trivial trivial rfl (by omega) (Tryz.sorts101 _) (enters_of Tryz.func167 (by kernel_rfl) rfl) 168 #[.pointer (some ⟨w.heap.size,0,none⟩)] trivial (enters_of Tryz.func168 (by kernel_rfl) rfl) _ _ hmax hbytes _ hseq
end Go.Proofs
namespace Go.Proofs.YtfanaanofjhlkaaGreatDoor
open Go Go.RowKit Go.Maps Go.WideMaps Go.Sort
theorem infoValue:(Tryz.prog.info? 92).map (fun i=>(i.zero,i.size,i.bytes))=some (some (.agg #[.string ⟨#[]⟩,.int .i64 0]),2,24):=by kernel_rfl
def valAt(D:DataW Unit)(s:List UInt8):Int:=match D.atKey (.string s) (.lit (.int .i64 0))with
 | .lit (.int _ c)=>c
 |_=>0
def valCells(D:DataW Unit)(l:List (List UInt8)):List Value:=l.flatMap fun s=>[encStr s,.int .i64 (valAt D s)]
theorem valCells_take(D:DataW Unit)(l:List (List UInt8))(k:Nat)(s:List UInt8)(h:l[k]?= some s):valCells D (l.take (k+1))=valCells D (l.take k)++ [encStr s,.int .i64 (valAt D s)]:=by
 have hk:=(List.getElem?_eq_some_iff.1 h).1
 have he:=(List.getElem?_eq_some_iff.1 h).2
 rw[List.take_succ_eq_append_getElem hk,he]
 simp[valCells]
theorem addr_add(g k:Nat):(⟨g,0,none⟩:Addr).add k=⟨g,k,none⟩:=by
 unfold Addr.add
 split
 ·rename_i h;rw[h]
 ·simp
theorem row_strings{W:World}{base e n:Nat}{v:Value}{S:List (List UInt8)}(h:W.ownsRow base e 1 v n (S.map encStr)) :
  ∃ad cap,v= .slice ad n cap/\∀(k:Nat) (s:List UInt8),S[k]?= some s->∃g,ad=some ⟨g,0,none⟩/\base<=g/\g < W.heap.size/\W.cell? ⟨g,k,none⟩=some (.string ⟨s.toArray⟩):=by
 have h1:=h.1
 rcases h.2 with⟨rfl,h0⟩|⟨g,cap,cur,rfl,hg,hgb,_⟩
 ·subst h0
  refine⟨none,0,rfl,fun k s hs=> ?_⟩
  simp at h1
  subst h1
  simp at hs
 ·refine⟨_,cap,rfl,fun k s hs=>⟨g,rfl,hg,(Array.getElem?_eq_some_iff.1 hgb).1,?_⟩⟩
  have:=h.cells (g:=g) rfl k (encStr s) (by simp[hs])
  rwa [addr_add]at this
theorem row_kept{X:Nat->Prop}{W W':World}{base base' e size n:Nat}{v:Value}{xs:List Value}(h:W.ownsRow base e size v n xs)(hb:Kept X W W')(hv:∀g,v.ownBlock=some g->¬X g)(hB:base'<=base):W'.ownsRow base' e size v n xs:=by
 obtain⟨h1,⟨rfl,h0⟩|⟨g,cap,cur,rfl,hg,hgb,hr⟩⟩:=h
 ·exact⟨h1,.inl ⟨rfl,h0⟩⟩
 ·exact⟨h1,.inr ⟨g,cap,cur,rfl,Nat.le_trans hB hg,hb.heap hgb (hv g rfl),hr⟩⟩
theorem row_below{W W':World}{base e size n m:Nat}{v:Value}{xs:List Value}(h:W.ownsRow base e size v n xs)(hb:Below m W W')(hv:∀g,v.ownBlock=some g->g < m):W'.ownsRow base e size v n xs:=by
 obtain⟨h1,⟨rfl,h0⟩|⟨g,cap,cur,rfl,hg,hgb,hr⟩⟩:=h
 ·exact⟨h1,.inl ⟨rfl,h0⟩⟩
 ·exact⟨h1,.inr ⟨g,cap,cur,rfl,hg,(hb.block g (hv g rfl)).trans hgb,hr⟩⟩
set_option maxHeartbeats 2000000 in
set_option maxRecDepth 100000 in
theorem list_calls(M:Nat)(D:DataW Unit)(w:World)(hm:MapIs w M D)(hn:Maps.size D<=100000000) :
  Calls Tryz.prog 46 #[.map (some M)] w fun e w'=>∃ss:List (List UInt8),ss.Perm (strKeys D)/\e= .returned (.slice (some ⟨w.heap.size,0,none⟩) ss.length ss.length)/\
   w'.ownsRow w.heap.size 92 2 (.slice (some ⟨w.heap.size,0,none⟩) ss.length ss.length) ss.length (valCells D (ss.mergeSort (fun x y=>decide (x<=y))))/\Below w.heap.size w w':=by
 have hMl:=hm.lt
 have hlen:=World.ownsMap.len (show w.ownsMap Tryz.prog 9 (plainElem Tryz.prog 3) M (Maps.size D) D from hm) Tryz.underlying99 3
 obtain⟨i0,hi,hz0,hz1,hz2⟩:=info_parts infoValue
 go_enter Tryz.func46,Tryz.ntmps46
 go_wp2_with (first
  |(at_make;refine wpList_make_own _ rfl _ _ 42 rfl w.heap.size 92 i0 _ 2 Tryz.underlying42 hi hz0 hz1 .i64 .i64 _ (Maps.size D) rfl rfl rfl (by rw[hz2];omega) (by unfold maxLen;omega) (Nat.le_refl _) ?_)
  |go_in)
 intro w1 hown1 hgrow1
 have hm1:MapIs w1 M D:=hm.kept (X:=fun _=>False) (Kept.grown hgrow1 (fun r e=>by cases e)) (fun h=>h)
 have hb1:Below w.heap.size w w1:=(Below.refl _ w).grown hgrow1 (Nat.le_refl _) (fun k e=>by cases e)
 clear hlen
 go_wp2_with (first
  |(go_at_call 102;refine(callsIn_wide.1 (Tryz.maps_Keys_102 _ _)).mono ?_;rintro e w' ⟨rfl,rfl⟩)
  |(go_at_call 101;refine(callsIn_wide.1 (Tryz.slices_Sorted_keys_101_102 M _ D _ w1 hm1 (by unfold maxLen;omega) (by omega))).mono ?_;rintro e w2 ⟨v,ss,rfl,hS,hrow,hnil,hb2⟩;obtain⟨ad,cp,rfl,hcs⟩:=row_strings hrow))
 have HSS:Hid (ss.length=Maps.size D):=by
  show ss.length=Maps.size D
  rw[hS.length_eq];cases D<;>simp[strKeys,Maps.size]
 have hle:ss.length<=Maps.size D:=Nat.le_of_eq HSS.out
 have hS2:(ss.mergeSort (fun x y=>decide (x<=y))).length=ss.length:=List.length_mergeSort _
 have hSle:∀s∈ss.mergeSort (fun x y=>decide (x<=y)),s.length<=maxLen:=fun s h=>
  strKeys_le (show w1.ownsMap Tryz.prog 9 (plainElem Tryz.prog 3) M (Maps.size D) D from hm1) Tryz.underlying9 s (hS.mem_iff.1 (List.mem_mergeSort.1 h))
 obtain⟨S,hSd⟩:∃S,ss.mergeSort (fun x y=>decide (x<=y))=S:=⟨_,rfl⟩
 rw[hSd]at hcs hS2 hSle
 have HSD:Hid (ss.mergeSort (fun x y=>decide (x<=y))=S):=hSd
 have hlS:ss.length<=S.length:=by omega
 clear hSd hS2 hrow hnil
 have hB2:Below w1.heap.size w1 w2:=((Below.refl _ w1).alloc (Nat.le_refl _) _).trans (hb2.mono (by simp))
 have hs1:=hb1.size
 have hw1:w.heap.size < w1.heap.size:=(hown1.lt _ rfl).2
 go_loopw [3,13] (fun l i wr=>∃k:Nat,k<=ss.length/\i= .int .i64 k/\l= .slice (some ⟨w.heap.size,0,none⟩) k (Maps.size D)/\wr.ownsRow w.heap.size 92 2 (.slice (some ⟨w.heap.size,0,none⟩) k (Maps.size D)) k (valCells D (S.take k))/\Kept (·= w.heap.size) w2 wr) (fun _ i _=>ss.length - (intOf i).toNat)
 case atStart=>exact⟨0,Nat.zero_le _,rfl,rfl,row_below hown1 hB2 (by simp[Value.ownBlock];omega),Kept.refl _ _⟩
 case round=>
  obtain⟨k,hk,rfl,rfl,hrowk,hkw⟩:=hrel
  have hM2:MapIs wr M D:=(hm1.below hB2 (by omega)).kept hkw (by omega)
  by_cases hlt:k < ss.length
  ·obtain⟨s,hs⟩:∃s,S[k]?= some s:=⟨_,List.getElem?_eq_getElem (by omega)⟩
   obtain⟨g,rfl,hg1,hg2,cs⟩:=hcs k s hs
   simp only[World.size_alloc]at hg1
   have ck:=(hkw.cell (p:=⟨g,k,none⟩) hg2 (by simp;omega)).trans cs
   have hkey:keyOf Tryz.prog 9 (.string ⟨s.toArray⟩)=some (.string s):=by
    have:=keyOf_string_mk (k:=9) Tryz.underlying9 (s:=⟨s.toArray⟩) (by simpa[ByteArray.size]using hSle s (List.mem_of_getElem? hs))
    simpa using this
   obtain⟨c,hrun,hat,hwc⟩:=World.ownsMap.lookup_int (show wr.ownsMap Tryz.prog 9 (plainElem Tryz.prog 3) M (Maps.size D) D from hM2) strKeyed Tryz.underlying99 Tryz.underlying3 (zeroInt _) hkey
   have HV:Hid (valAt D s=c):=by simp[Hid,valAt,hat]
   have HT:Hid (valCells D (S.take (k+1))=valCells D (S.take k)++ [encStr s,.int .i64 (valAt D s)]):=valCells_take D S k s hs
   clear hat hcs
   go_wp2_with (first
    |(at_builtin;refine wpList_append_fits _ rfl _ _ 42 rfl w.heap.size 92 i0 2 Tryz.underlying42 hi hz1 w.heap.size k (Maps.size D) _ rfl (hrowk.alloc _) ⟨wr.heap.size,0,none⟩ 1 1 [.string ⟨s.toArray⟩,.int .i64 c] rfl rfl (cell_two_new _ _ _ _) (fun x hx=>by simp at hx;rcases hx with rfl|rfl<;>rfl) (by omega) ?_;intro w3 hown3 hgrow3)
    |go_in)
   go_roundw
   case rel=>exact⟨k+1,by omega,by go_num,rfl,by rw[HT.out,HV.out];exact hown3,(hkw.trans (Kept.alloc _ _ _)).trans (Kept.grown hgrow3 (fun r e=>by cases e;rfl))⟩
   case measure=>simp[intOf];omega
  ·obtain rfl:k=ss.length:=by omega
   go_wp2_with fail
   go_ret
   have hT:S.take ss.length=S:=List.take_of_length_le (by rw[<-HSD.out,List.length_mergeSort];exact Nat.le_refl _)
   rw[hT,<-HSS.out]at hrowk
   refine⟨ss,hS,?_,?_,?_⟩
   ·rw[<-HSS.out];rfl
   ·rw[HSD.out];exact hrowk
   ·exact(hb1.trans (hB2.mono hs1)).trans (hkw.below (by have:=hB2.size;omega) (fun k e=>by omega))
end Go.Proofs.YtfanaanofjhlkaaGreatDoor
