import Derived.RangeFuncNested
import Derived.RangeFuncBound
import Derived.RangeFuncCalls
import Derived.RangeFuncLeaves
import Derived.WalkKit
import Derived.Test.YtfanaanofjhlkaaGreatDoorProg
import Derived.BigQuiet
import Derived.Deep.QuietTactic
import Derived.Shelf.Abstract
import Derived.Shelf.RegionOpen
import Derived.OwnWalkIn
import Derived.TacticsInMore
import Derived.LoopNIn
import Derived.LoopIn
import Derived.Deep.RegionHeld3
namespace Go.Proofs.YtfanaanofjhlkaaGreatDoor
open Go Go.RowKit
structure Kept(X:Nat->Prop)(W W':World):Prop where
 os:W'.os=W.os
 tape:W'.tape=W.tape
 output:W'.output=W.output
 size:W.heap.size<=W'.heap.size
 block:∀k,k < W.heap.size->¬X k->W'.heap[k]?= W.heap[k]?
theorem Kept.refl(X:Nat->Prop)(W:World):Kept X W W:=⟨rfl,rfl,rfl,Nat.le_refl _,fun _ _ _=>rfl⟩
theorem Kept.trans{X:Nat->Prop}{A B C:World}(h:Kept X A B)(k:Kept X B C):Kept X A C:=
 ⟨k.os.trans h.os,k.tape.trans h.tape,k.output.trans h.output,Nat.le_trans h.size k.size,
  fun i hi hx=>(k.block i (Nat.lt_of_lt_of_le hi h.size) hx).trans (h.block i hi hx)⟩
theorem Kept.mono{X Y:Nat->Prop}{A B:World}(h:Kept X A B)(hy:∀k,k < A.heap.size->X k->Y k):Kept Y A B:=
 ⟨h.os,h.tape,h.output,h.size,fun k hk hx=>h.block k hk (fun hX=>hx (hy k hk hX))⟩
theorem Kept.of_below{X:Nat->Prop}{B:Nat}{W W':World}(h:Below B W W')(hX:∀k,k < W.heap.size->B<=k->X k):Kept X W W':=
 ⟨h.os,h.tape,h.output,h.size,fun k hk hx=>h.block k (Nat.lt_of_not_le fun hB=>hx (hX k hk hB))⟩
theorem Kept.below{X:Nat->Prop}{B:Nat}{W W':World}(h:Kept X W W')(hB:B<=W.heap.size)(hX:∀k,X k->B<=k):Below B W W':=
 ⟨h.os,h.tape,h.output,h.size,fun k hk=>h.block k (Nat.lt_of_lt_of_le hk hB) (fun hx=>Nat.not_lt_of_le (hX k hx) hk)⟩
theorem Kept.later{X:Nat->Prop}{A B C:World}(h:Kept X A B){n:Nat}(hb:Below n B C)(hn:A.heap.size<=n):Kept X A C:=
 ⟨hb.os.trans h.os,hb.tape.trans h.tape,hb.output.trans h.output,Nat.le_trans h.size hb.size,fun k hk hx=>(hb.block k (Nat.lt_of_lt_of_le hk hn)).trans (h.block k hk hx)⟩
theorem Kept.heap{X:Nat->Prop}{W W':World}(h:Kept X W W'){k:Nat}{o:Obj}(hk:W.heap[k]?= some o)(hx:¬X k):W'.heap[k]?= some o:=
 (h.block k (Array.getElem?_eq_some_iff.1 hk).1 hx).trans hk
theorem Kept.alloc(X:Nat->Prop)(W:World)(o:Obj):Kept X W (W.alloc o):=
 Kept.of_below ((Below.refl W.heap.size W).alloc (Nat.le_refl _) o) (fun _ h h'=>absurd h (Nat.not_lt_of_le h'))
theorem Kept.grown{X:Nat->Prop}{W W':World}{row:Option Nat}(hg:W.grownBy W' row)(hx:∀r,row=some r->X r):Kept X W W':=
 ⟨hg.os,hg.tape,hg.output,hg.size,fun k hk hn=>hg.block k hk (fun e=>hn (hx k e.symm))⟩
theorem Kept.putObj{X:Nat->Prop}(W:World)(l:Nat)(o:Obj)(hx:X l):Kept X W (W.putObj l o):=
 Kept.grown (grownBy_putObj' W l o) (fun r e=>by cases e;exact hx)
theorem Kept.cell{X:Nat->Prop}{W W':World}(h:Kept X W W'){p:Addr}(hk:p.block < W.heap.size)(hx:¬X p.block):W'.cell? p=W.cell? p:=
 World.cell?_of_block (w:=W) (h.block p.block hk hx)
theorem Kept.drew{X:Nat->Prop}{A W:World}(h:Kept X A W):Kept X A W.drew:=⟨h.os,h.tape,h.output,h.size,h.block⟩
theorem Kept.setCell{X:Nat->Prop}{A W:World}(h:Kept X A W){p:Addr}(hp:X p.block\/A.heap.size<=p.block)(u:Value):Kept X A (W.setCell p u):=by
 have b:Below p.block W (W.setCell p u):=(Below.refl _ W).setCell (Nat.le_refl _) u
 refine⟨b.os.trans h.os,b.tape.trans h.tape,b.output.trans h.output,Nat.le_trans h.size b.size,fun k hk hx=> ?_⟩
 refine(Below.heap_setCell W p u k (fun e=> ?_)).trans (h.block k hk hx)
 subst e
 rcases hp with hp|hp
 ·exact hx hp
 ·omega
theorem Kept.andThen{X Y:Nat->Prop}{A B C:World}(h:Kept X A B)(k:Kept Y B C)(hy:∀b,b < A.heap.size->Y b->X b):Kept X A C:=
 ⟨k.os.trans h.os,k.tape.trans h.tape,k.output.trans h.output,Nat.le_trans h.size k.size,fun b hb hx=>(k.block b (Nat.lt_of_lt_of_le hb h.size) (fun hY=>hx (hy b hb hY))).trans (h.block b hb hx)⟩
def SeqX{α:Type}(F:Fence)(n:Nat)(P:Program)(g:Nat)(lb:Array Value)(encs:α->Array Value)(X:Nat->Prop)(S Sp:List α->Prop)(W:World):Prop:=
 ∀(l:Nat) (J Jx:List α->World->Prop),(∀s A B,J s A->Below W.heap.size A B->J s B)->(∀s A B,Jx s A->Below W.heap.size A B->Jx s B)->
  (∀pre x W1,J pre W1->W.heap.size<=W1.heap.size->YieldAt F (n - 1) P l (encs x) W1 fun e W'=>
   (e= .returned (.bool true)/\J (pre++ [x]) W'/\Kept X W1 W')\/(e= .returned (.bool false)/\Jx (pre++ [x]) W'/\Kept (·< W.heap.size) W1 W'))->
  J [] W->
  CallsIn F n P g (#[.func (.yield l) #[] #[]]++lb) W fun e W'=>(∃v,e= .returned v)/\((∃xs,S xs/\J xs W')\/(∃pre,Sp pre/\Jx pre W'))
def roundEnds{α:Type}(B:Nat)(X:Nat->Prop)(I:List α->World->Prop)(Ix:Code->List α->World->Prop)(xs:List α)(W:World):Exit->Act->World->Prop
 | .normal,_,W'=>Kept X W W'/\I xs W'
 | .ret,_,W'=>Kept (·< B) W W'/\Ix .ret xs W'
 | .exit id,_,W'=>Kept (·< B) W W'/\Ix (.exit id) xs W'
 | .goto t,_,W'=>Kept (·< B) W W'/\Ix (.goto t) xs W'
 | .panic _,_,_=>False
 | .outgrown,_,_=>False
variable {F:Fence} {n:Nat} {P:Program}
theorem range_law{α:Type}{g:Operand}{ps:Array Tmp}{assign body:Code}{Q:Exit->Act->World->Prop}{a:Act}{w:World}
  (hro:F.round=none) (h1:F.depth.isSome=true->1<=n) {gf:Nat} {lb:Array Value} (hg:a.eval g= .func (.func gf) #[] lb) (hFg:F.fn gf) (eg:∀args w,(callFunc gf args).run P w= .ok (.enter gf args) w)
  {encs:α->Array Value} {S Sp:List α->Prop} (X:Nat->Prop) (hX:∀k,X k->k < w.heap.size)
  (hseq:∀W,Below w.heap.size w W->W.heap.size=w.heap.size+2->SeqX F (n - 1) P gf lb encs (fun k=>X k\/k=w.heap.size+1) S Sp W)
  (hps:∀x,(encs x).size=ps.size)
  (I:List α->World->Prop) (Ix:Code->List α->World->Prop) (hI:∀s A B,I s A->Below w.heap.size A B->I s B) (hIx:∀c s A B,Ix c s A->Below w.heap.size A B->Ix c s B) (h0:I [] w)
  (Ax:List α->α->Act->World->Prop) (hAx:∀pre x a' A B,Ax pre x a' A->Kept (·= w.heap.size+1) A B->Ax pre x a' B)
  (hassign:∀(l:Nat) (pre:List α) (x:α) (W:World) (K:Act->World->Prop),I pre W->w.heap.size+2<=W.heap.size->(∀a' W',Kept X W W'->I pre W'->Ax pre x a' W'->K a' W')->
   assign.wpIn (F.inRound l) (n - 1 - 1) P (Exit.then K (fun _ _ _=>False)) {tmps:=(ps.zip (encs x)).foldl (fun t (p,v)=>t.setIfInBounds p v) a.tmps,defers:=[]} W)
  (hbody:∀(l:Nat) (pre:List α) (x:α) (a':Act) (W:World),I pre W->Ax pre x a' W->w.heap.size+2<=W.heap.size->body.wpIn (F.inRound l) (n - 1 - 1) P (roundEnds w.heap.size X I Ix (pre++ [x]) W) a' W)
  (hdone:∀(D:Nat) (xs:List α) (W:World),w.heap.size<=D->S xs->I xs W->W.heap[D]?= some (.deferred (some []))->Q .normal {a with defers:={target:= .collected D,args:=#[]} :: a.defers} W)
  (hstop:∀(D:Nat) (c:Code) (pre:List α) (W:World),w.heap.size<=D->Sp pre->Ix c pre W->W.heap[D]?= some (.deferred (some []))->c.wpIn F n P Q {a with defers:={target:= .collected D,args:=#[]} :: a.defers} W) :
  (Code.rangeFunc g ps assign body).wpIn F n P Q a w:=by
 refine wpIn_rangeFunc fun fn hfn=> ?_
 rw[hro]
 obtain⟨rec,hrec⟩:∃rec:LoopState->Option Code->Loop,rec=fun st pe=>{state:=st,pending:=pe,fn,tmps:=a.tmps,params:=ps,assign,body,defers:=w.heap.size}:=⟨_,rfl⟩
 obtain⟨V,hV⟩:∃V,(w.alloc (.deferred (some []))).alloc (.loop (rec .ready none))=V:=⟨_,rfl⟩
 have vsize:V.heap.size=w.heap.size+2:=by rw[<-hV];simp
 have vbelow:Below w.heap.size w V:=by
  rw[<-hV];exact((Below.refl _ w).alloc (Nat.le_refl _) _).alloc (by simp) _
 have vloop:V.heap[w.heap.size+1]?= some (.loop (rec .ready none)):=by
  have h:=World.alloc_heap_new (w.alloc (.deferred (some []))) (.loop (rec .ready none))
  rw[World.size_alloc]at h;rw[<-hV];exact h
 have vdef:V.heap[w.heap.size]?= some (.deferred (some [])):=by
  rw[<-hV];exact(Below.heap_alloc _ _ _ (by simp)).trans (World.alloc_heap_new w _)
 refine⟨w.heap.size+1,[{target:= .collected w.heap.size,args:=#[]}],V,{target:= .fn (.func gf) lb,args:=#[.func (.yield (w.heap.size+1)) #[] #[]]},V,gf,
  #[.func (.yield (w.heap.size+1)) #[] #[]]++lb,V,?_,?_,?_,?_,h1,?_⟩
 ·rw[<-hV,hrec];exact run_enterLoop_outer _ _ _ _ _
 ·simp only[resolve,hg];simp[go_sem]
 ·intro f' hf';simp[Target.leads]at hf';subst hf';exact hFg
 ·simp[invoke,go_sem,eg]
 have lift:∀{A B:World},Below V.heap.size A B->Below w.heap.size A B:=fun h=>h.mono (by omega)
 refine(hseq V vbelow vsize (w.heap.size+1)
   (fun pre W=>I pre W/\W.heap[w.heap.size+1]?= some (.loop (rec .ready none))/\W.heap[w.heap.size]?= some (.deferred (some [])))
   (fun pre W=>∃c,Ix c pre W/\W.heap[w.heap.size+1]?= some (.loop (rec .done (some c)))/\W.heap[w.heap.size]?= some (.deferred (some [])))
   (fun s A B hs hb=>⟨hI s A B hs.1 (lift hb),(hb.block _ (by omega)).trans hs.2.1,(hb.block _ (by omega)).trans hs.2.2⟩)
   (fun s A B hs hb=>by
    obtain⟨c,hc,hl,hk⟩:=hs
    exact⟨c,hIx c s A B hc (lift hb),(hb.block _ (by omega)).trans hl,(hb.block _ (by omega)).trans hk⟩)
   ?_ ⟨hI _ _ _ h0 vbelow,vloop,vdef⟩).mono ?_
 ·rintro pre x W ⟨hi,hl,hk⟩ hsz
  rw[vsize]at hsz
  have hy:=run_yield (P:=P) (args:=encs x) hl (by rw[hrec];exact hps x)
  rw[hrec]at hy
  refine⟨fn,_,assign,body,hy,roundIn_of_wpIn hfn (hassign _ pre x W _ hi hsz fun a' U kU iU aU=> ?_)⟩
  clear hy
  have nX:∀k,w.heap.size<=k->¬X k:=fun k hk hx=>Nat.not_lt_of_le hk (hX k hx)
  have ul:=kU.heap hl (nX _ (by omega))
  have uk:=kU.heap hk (nX _ (Nat.le_refl _))
  have usz:w.heap.size+2<=U.heap.size:=Nat.le_trans hsz kU.size
  refine⟨_,run_beginRound ul (by rw[hrec]),?_⟩
  obtain⟨T,hT⟩:∃T,U.putObj (w.heap.size+1) (.loop {rec .ready none with state:= .busy})=T:=⟨_,rfl⟩
  rw[hT]
  have kT:Kept (·= w.heap.size+1) U T:=by rw[<-hT];exact Kept.putObj _ _ _ rfl
  have tl:T.heap[w.heap.size+1]?= some (.loop {rec .ready none with state:= .busy}):=by rw[<-hT];exact World.putObj_heap_same (by omega)
  have tk:T.heap[w.heap.size]?= some (.deferred (some [])):=kT.heap uk (by omega)
  have toB:∀{A B:World},w.heap.size<=A.heap.size->Kept (·= w.heap.size+1) A B->Below w.heap.size A B:=fun h k=>k.below h (fun _ e=>by omega)
  refine wpIn_mono (hbody _ pre x a' T (hI _ _ _ iU (toB (by omega) kT)) (hAx _ _ _ _ _ aU kT) (Nat.le_trans usz kT.size)) ?_
  have fin:∀(jump:Option Code) (Z:World),Kept (·< w.heap.size) T Z->∃Z',(Instr.endRound (w.heap.size+1) jump).run P Z= .ok (.bool jump.isNone) Z'/\
    Kept (·= w.heap.size+1) Z Z'/\Z'.heap[w.heap.size+1]?= some (.loop (rec (if jump.isNone then .ready else .done) jump))/\Z'.heap[w.heap.size]?= some (.deferred (some [])):=fun jump Z kZ=>by
   have zl:=kZ.heap tl (by omega)
   have zk:=kZ.heap tk (by omega)
   have zr:=run_endRound (P:=P) jump zl
   rw[hrec]at zr zl ⊢
   exact⟨_,zr,Kept.putObj _ _ _ rfl,World.putObj_heap_same (Array.getElem?_eq_some_iff.1 zl).1,(World.putObj_heap_other (by omega)).trans zk⟩
  have kS:∀{Z:World},Kept X T Z->Kept (·< w.heap.size) T Z:=fun h=>h.mono (fun k _ hx=>hX k hx)
  have leave:∀(c:Code) (Z:World),Kept (·< w.heap.size) T Z->Ix c (pre++ [x]) Z->∃v Z',(Instr.endRound (w.heap.size+1) (some c)).run P Z= .ok v Z'/\
    ((Ending.returned v= .returned (.bool true)/\(I (pre++ [x]) Z'/\Z'.heap[w.heap.size+1]?= some (.loop (rec .ready none))/\Z'.heap[w.heap.size]?= some (.deferred (some [])))/\Kept (fun k=>X k\/k=w.heap.size+1) W Z')\/
     (Ending.returned v= .returned (.bool false)/\(∃c,Ix c (pre++ [x]) Z'/\Z'.heap[w.heap.size+1]?= some (.loop (rec .done (some c)))/\Z'.heap[w.heap.size]?= some (.deferred (some [])))/\Kept (·< V.heap.size) W Z')):=fun c Z kZ hi3=>by
   obtain⟨Z',hr,kZ',hl4,hk4⟩:=fin (some c) Z kZ
   refine⟨_,Z',hr,.inr ⟨rfl,⟨c,hIx c _ _ _ hi3 (toB (Nat.le_trans (by omega) (Nat.le_trans kT.size kZ.size)) kZ'),hl4,hk4⟩,?_⟩⟩
   have b1:Kept (·< V.heap.size) W U:=kU.mono (fun k _ hx=>by have:=hX k hx;omega)
   exact((b1.trans (kT.mono (fun k _ e=>by omega))).trans (kZ.mono (fun k _ e=>by omega))).trans (kZ'.mono (fun k _ e=>by omega))
  rintro e a3 Z hp
  cases e with
  |normal=>
   obtain⟨kZ,hi3⟩:=hp
   obtain⟨Z',hr,kZ',hl4,hk4⟩:=fin none Z (kS kZ)
   refine⟨_,Z',hr,.inl ⟨rfl,⟨hI _ _ _ hi3 (toB (Nat.le_trans (by omega) (Nat.le_trans kT.size kZ.size)) kZ'),hl4,hk4⟩,?_⟩⟩
   exact(((kU.mono (fun k _ h=> .inl h)).trans (kT.mono (fun k _ h=> .inr h))).trans (kZ.mono (fun k _ h=> .inl h))).trans (kZ'.mono (fun k _ h=> .inr h))
  |ret=>exact leave .ret Z hp.1 hp.2
  |exit id=>exact leave (.exit id) Z hp.1 hp.2
  |goto t=>exact leave (.goto t) Z hp.1 hp.2
  |panic ch=>exact hp.elim
  |outgrown=>exact hp.elim
 ·rintro e Z ⟨⟨v,rfl⟩,(⟨xs,hS,hi,hl,hk⟩|⟨pre,hSp,c,hi,hl,hk⟩)⟩
  ·have hlt:=(Array.getElem?_eq_some_iff.1 hl).1
   refine⟨none,_,by have:=run_endLoop (P:=P) hl (by rw[hrec];simp);rw[hrec]at this;exact this,hdone _ xs _ (Nat.le_refl _) hS (hI _ _ _ hi ?_) ((World.putObj_heap_other (by omega)).trans hk)⟩
   exact(Kept.putObj (X:=(·= w.heap.size+1)) _ _ _ rfl).below (by omega) (fun _ e=>by omega)
  ·have hlt:=(Array.getElem?_eq_some_iff.1 hl).1
   refine⟨some c,_,by have:=run_endLoop (P:=P) hl (by rw[hrec];simp);rw[hrec]at this;exact this,hstop _ c pre _ (Nat.le_refl _) hSp (hIx c _ _ _ hi ?_) ((World.putObj_heap_other (by omega)).trans hk)⟩
   exact(Kept.putObj (X:=(·= w.heap.size+1)) _ _ _ rfl).below (by omega) (fun _ e=>by omega)
structure KidS where
 kind:Int
 less:Int
structure KindS where
 A:Int
 B:Int
 kids:List KidS
structure TaskS where
 id:ByteArray
 kind:Int
 arg:Int
def numB(k n:Int):Bool:=decide (0<=k/\k<=n - 1)
def rangeB(x lo hi:Int):Bool:=decide (lo<=x/\x<=hi)
def kidB(n:Int)(c:KidS):Bool:=numB c.kind n&&rangeB c.less 1 9
def kindB(n:Int)(k:KindS):Bool:=rangeB k.A (-1000) 1000&&rangeB k.B (-1000) 1000&&decide (k.kids.length<=3)&&k.kids.all (kidB n)
def progB(ks:List KindS)(kind arg:Int):Bool:=rangeB ks.length 1 5&&ks.all (kindB ks.length)&&numB kind ks.length&&rangeB arg 0 12
def digit(i:Nat):UInt8:=UInt8.ofNat (48+i)
def kidId(id:ByteArray)(i:Nat):ByteArray:=id++⟨#[digit i]⟩
def childrenFrom(id:ByteArray)(x:Int):Nat->List KidS->List TaskS
 |_,[]=>[]
 |i,c :: r=>if c.less<=x then⟨kidId id i,c.kind,x - c.less⟩ :: childrenFrom id x (i+1) r else childrenFrom id x (i+1) r
def kindAt(ks:List KindS)(k:Int):KindS:=ks[k.toNat]?.getD ⟨0,0,[]⟩
def children(ks:List KindS)(t:TaskS):List TaskS:=childrenFrom t.id t.arg 0 (kindAt ks t.kind).kids
def tree(ks:List KindS):Nat->TaskS->List TaskS
 |0,t=>[t]
 |f+1,t=>t :: (children ks t).flatMap (tree ks f)
def valueOf(ks:List KindS)(t:TaskS):Int:=(kindAt ks t.kind).A*t.arg+(kindAt ks t.kind).B
def taskV(t:TaskS):Value:= .agg #[.string t.id,.int .i64 t.kind,.int .i64 t.arg]
def KidsAt(ok:Nat->Prop)(W:World)(v:Value)(l:List KidS):Prop:=
 ∃a cap,v= .slice a l.length cap/\∀j c,l[j]?= some c->∃b o,a=some ⟨b,o,none⟩/\ok b/\b < W.heap.size/\
  W.cell? ⟨b,o+j*2,none⟩=some (.int .i64 c.kind)/\W.cell? ⟨b,o+j*2+1,none⟩=some (.int .i64 c.less)
def KindsAt(ok:Nat->Prop)(W:World)(v:Value)(l:List KindS):Prop:=
 ∃a cap,v= .slice a l.length cap/\∀j k,l[j]?= some k->∃b o kv,a=some ⟨b,o,none⟩/\ok b/\b < W.heap.size/\
  W.cell? ⟨b,o+j*3,none⟩=some (.int .i64 k.A)/\W.cell? ⟨b,o+j*3+1,none⟩=some (.int .i64 k.B)/\W.cell? ⟨b,o+j*3+2,none⟩=some kv/\KidsAt ok W kv k.kids
theorem KidsAt.kept{ok X:Nat->Prop}{W W':World}{v:Value}{l:List KidS}(h:KidsAt ok W v l)(k:Kept X W W')(hx:∀b,ok b->¬X b):KidsAt ok W' v l:=by
 obtain⟨a,cap,rfl,hc⟩:=h
 refine⟨a,cap,rfl,fun j c hj=> ?_⟩
 obtain⟨b,o,ha,hok,hb,c0,c1⟩:=hc j c hj
 exact⟨b,o,ha,hok,Nat.lt_of_lt_of_le hb k.size,(k.cell (p:=⟨b,_,none⟩) hb (hx b hok)).trans c0,(k.cell (p:=⟨b,_,none⟩) hb (hx b hok)).trans c1⟩
theorem KindsAt.kept{ok X:Nat->Prop}{W W':World}{v:Value}{l:List KindS}(h:KindsAt ok W v l)(k:Kept X W W')(hx:∀b,ok b->¬X b):KindsAt ok W' v l:=by
 obtain⟨a,cap,rfl,hc⟩:=h
 refine⟨a,cap,rfl,fun j c hj=> ?_⟩
 obtain⟨b,o,kv,ha,hok,hb,c0,c1,c2,hk⟩:=hc j c hj
 exact⟨b,o,kv,ha,hok,Nat.lt_of_lt_of_le hb k.size,(k.cell (p:=⟨b,_,none⟩) hb (hx b hok)).trans c0,(k.cell (p:=⟨b,_,none⟩) hb (hx b hok)).trans c1,(k.cell (p:=⟨b,_,none⟩) hb (hx b hok)).trans c2,hk.kept k hx⟩
theorem KidsAt.below{ok:Nat->Prop}{W:World}{v:Value}{l:List KidS}(h:KidsAt ok W v l):KidsAt (fun b=>ok b/\b < W.heap.size) W v l:=by
 obtain⟨a,cap,rfl,hc⟩:=h
 refine⟨a,cap,rfl,fun j c hj=> ?_⟩
 obtain⟨b,o,ha,hok,hb,c0,c1⟩:=hc j c hj
 exact⟨b,o,ha,⟨hok,hb⟩,hb,c0,c1⟩
theorem KindsAt.below{ok:Nat->Prop}{W:World}{v:Value}{l:List KindS}(h:KindsAt ok W v l):KindsAt (fun b=>ok b/\b < W.heap.size) W v l:=by
 obtain⟨a,cap,rfl,hc⟩:=h
 refine⟨a,cap,rfl,fun j c hj=> ?_⟩
 obtain⟨b,o,kv,ha,hok,hb,c0,c1,c2,hk⟩:=hc j c hj
 exact⟨b,o,kv,ha,⟨hok,hb⟩,hb,c0,c1,c2,hk.below⟩
def BoxAt(W:World)(B:Nat)(t:TypeId)(cs:Array Value):Prop:=W.heap[B]?= some (.cells cs t (0,0))
theorem BoxAt.lt{W:World}{B:Nat}{t:TypeId}{cs:Array Value}(h:BoxAt W B t cs):B < W.heap.size:=(Array.getElem?_eq_some_iff.1 h).1
theorem BoxAt.cell{W:World}{B:Nat}{t:TypeId}{cs:Array Value}(h:BoxAt W B t cs){o:Nat}{v:Value}(hv:cs[o]?= some v):W.cell? ⟨B,o,none⟩=some v:=by
 simp[World.cell?,show W.heap[B]?= _ from h,hv]
theorem BoxAt.frozen{W:World}{B:Nat}{t:TypeId}{cs:Array Value}(h:BoxAt W B t cs)(o:Nat):W.frozen? ⟨B,o,none⟩=false:=by
 simp[World.frozen?,show W.heap[B]?= _ from h]
theorem BoxAt.new(W:World)(t:TypeId)(cs:Array Value):BoxAt (W.alloc (.cells cs t)) W.heap.size t cs:=World.alloc_heap_new W _
theorem BoxAt.kept{X:Nat->Prop}{W W':World}{B:Nat}{t:TypeId}{cs:Array Value}(h:BoxAt W B t cs)(k:Kept X W W')(hx:¬X B):BoxAt W' B t cs:=k.heap h hx
theorem BoxAt.below{n:Nat}{W W':World}{B:Nat}{t:TypeId}{cs:Array Value}(h:BoxAt W B t cs)(k:Below n W W')(hx:B < n):BoxAt W' B t cs:=(k.block B hx).trans h
theorem BoxAt.alloc{W:World}{B:Nat}{t:TypeId}{cs:Array Value}(h:BoxAt W B t cs)(o:Obj):BoxAt (W.alloc o) B t cs:=(Below.heap_alloc W o B h.lt).trans h
theorem cell_alloc{w:World}{a:Addr}{v:Value}(o:Obj)(h:w.cell? a=some v):(w.alloc o).cell? a=some v:=
 cell_kept h (World.grownBy_alloc w o none) (fun r e=>by cases e)
theorem cell_alloc3{w:World}{a:Addr}{v:Value}(h:w.cell? a=some v)(o1 o2 o3:Obj):(((w.alloc o1).alloc o2).alloc o3).cell? a=some v:=
 cell_alloc o3 (cell_alloc o2 (cell_alloc o1 h))
set_option maxHeartbeats 400000 in
theorem within_calls(n lo hi:Int)(w:World) :
  Calls Tryz.prog 141 #[.int .i64 n,.int .i64 lo,.int .i64 hi] w fun e w'=>e= .returned (.bool (rangeB n lo hi))/\w'=w:=by
 by_cases h1:lo<=n
 ·by_cases h2:n<=hi
  ·go_enter Tryz.func141,Tryz.ntmps141
   go_wp2
   go_ret
   exact⟨by simp[rangeB,h1,h2],rfl⟩
  ·go_enter Tryz.func141,Tryz.ntmps141
   go_wp2
   go_ret
   exact⟨by simp[rangeB,h2],rfl⟩
 ·go_enter Tryz.func141,Tryz.ntmps141
  go_wp2
  go_ret
  exact⟨by simp[rangeB];omega,rfl⟩
set_option maxHeartbeats 400000 in
theorem isNumber_calls(k n:Int)(h0:0<=n)(h1:n<=9223372036854775807)(w:World) :
  Calls Tryz.prog 143 #[.int .i64 k,.int .i64 n] w fun e w'=>e= .returned (.bool (numB k n))/\w'=w:=by
 go_enter Tryz.func143,Tryz.ntmps143
 go_wp2_with (go_at_call 141;refine(within_calls _ _ _ _).mono ?_;rintro e w' ⟨rfl,rfl⟩)
 go_ret
 exact⟨by simp[rangeB,numB],rfl⟩
theorem kindB_at(n A B:Int)(l:List KidS)(hA:rangeB A (-1000) 1000=true)(hB:rangeB B (-1000) 1000=true)(h3:l.length<=3):kindB n ⟨A,B,l⟩=l.all (kidB n):=by
 simp[kindB,hA,hB,h3]
theorem all_drop_get{α:Type}(p:α->Bool)(l:List α)(k:Nat)(c:α)(h:l[k]?= some c):(l.drop k).all p=(p c&&(l.drop (k+1)).all p):=by
 have hk:=(List.getElem?_eq_some_iff.1 h).1
 have he:=(List.getElem?_eq_some_iff.1 h).2
 rw[List.drop_eq_getElem_cons hk,List.all_cons,he]
set_option maxHeartbeats 1000000 in
theorem isKind_calls(A B n:Int)(kv:Value)(l:List KidS)(ok:Nat->Prop)(h0:0<=n)(h1:n<=9223372036854775807)(w:World)(hk:KidsAt ok w kv l)(hl:l.length<=9223372036854775806) :
  Calls Tryz.prog 142 #[.agg #[.int .i64 A,.int .i64 B,kv],.int .i64 n] w fun e w'=>e= .returned (.bool (kindB n ⟨A,B,l⟩))/\Below w.heap.size w w':=by
 obtain⟨a,cap,rfl,hc⟩:=hk
 by_cases hA:rangeB A (-1000) 1000=true
 case neg=>
  go_enter Tryz.func142,Tryz.ntmps142
  go_wp2_with (go_at_call 141;refine(within_calls _ _ _ _).mono ?_;rintro e w' ⟨rfl,rfl⟩)
  go_ret
  exact⟨by simp[kindB,hA],(Below.refl _ _).alloc (Nat.le_refl _) _⟩
 by_cases hB:rangeB B (-1000) 1000=true
 case neg=>
  go_enter Tryz.func142,Tryz.ntmps142
  go_wp2_with (go_at_call 141;refine(within_calls _ _ _ _).mono ?_;rintro e w' ⟨rfl,rfl⟩)
  go_ret
  exact⟨by simp[kindB,hB],(Below.refl _ _).alloc (Nat.le_refl _) _⟩
 by_cases h3:l.length<=3
 case neg=>
  go_enter Tryz.func142,Tryz.ntmps142
  go_wp2_with (go_at_call 141;refine(within_calls _ _ _ _).mono ?_;rintro e w' ⟨rfl,rfl⟩)
  go_ret
  exact⟨by simp[kindB,h3],(Below.refl _ _).alloc (Nat.le_refl _) _⟩
 have HK:Hid (kindB n ⟨A,B,l⟩=l.all (kidB n)):=kindB_at n A B l hA hB h3
 go_enter Tryz.func142,Tryz.ntmps142
 go_wp2_with (go_at_call 141;refine(within_calls _ _ _ _).mono ?_;rintro e w' ⟨rfl,rfl⟩)
 go_loopw [24] (fun i wr=>∃k:Nat,k<=l.length/\i= .int .i64 k/\l.all (kidB n)=(l.drop k).all (kidB n)/\Below w.heap.size w wr) (fun i _=>l.length - (intOf i).toNat)
 case atStart=>exact⟨0,Nat.zero_le _,rfl,rfl,(Below.refl _ _).alloc (Nat.le_refl _) _⟩
 case round=>
  obtain⟨k,hk,rfl,hall,hb⟩:=hrel
  have HA:Hid (l.all (kidB n)=(l.drop k).all (kidB n)):=hall
  clear hall
  by_cases hlt:k < l.length
  ·obtain⟨c,hcc⟩:∃c,l[k]?= some c:=⟨_,List.getElem?_eq_getElem hlt⟩
   obtain⟨b,o,rfl,hok,hbw,c0,c1⟩:=hc k c hcc
   have d0:=(hb.cell (p:=⟨b,o+k*2,none⟩) hbw).trans c0
   have d1:=(hb.cell (p:=⟨b,o+k*2+1,none⟩) hbw).trans c1
   have HS:Hid ((l.drop k).all (kidB n)=(kidB n c&&(l.drop (k+1)).all (kidB n))):=all_drop_get _ l k c hcc
   clear hc c0 c1
   by_cases hn:numB c.kind n=true
   ·by_cases hr:rangeB c.less 1 9=true
    ·go_wp2_with (first
      |(go_at_call 143;refine(isNumber_calls _ _ h0 h1 _).mono ?_;rintro e w' ⟨rfl,rfl⟩)
      |(go_at_call 141;refine(within_calls _ _ _ _).mono ?_;rintro e w' ⟨rfl,rfl⟩))
     go_roundw
     case rel=>exact⟨k+1,by omega,by go_num,by rw[HA.out,HS.out];simp[kidB,hn,hr],hb.trans ((Below.refl _ _).alloc hb.size _)⟩
     case measure=>simp[intOf];omega
    ·go_wp2_with (first
      |(go_at_call 143;refine(isNumber_calls _ _ h0 h1 _).mono ?_;rintro e w' ⟨rfl,rfl⟩)
      |(go_at_call 141;refine(within_calls _ _ _ _).mono ?_;rintro e w' ⟨rfl,rfl⟩))
     go_ret
     exact⟨by rw[HK.out,HA.out,HS.out];simp[kidB,hr],hb.trans ((Below.refl _ _).alloc hb.size _)⟩
   ·go_wp2_with (first
      |(go_at_call 143;refine(isNumber_calls _ _ h0 h1 _).mono ?_;rintro e w' ⟨rfl,rfl⟩)
      |(go_at_call 141;refine(within_calls _ _ _ _).mono ?_;rintro e w' ⟨rfl,rfl⟩))
    go_ret
    exact⟨by rw[HK.out,HA.out,HS.out];simp[kidB,hn],hb.trans ((Below.refl _ _).alloc hb.size _)⟩
  ·go_wp2_with fail
   go_ret
   exact⟨by rw[HK.out,HA.out,List.drop_eq_nil_of_le (by omega)];rfl,hb⟩
set_option maxHeartbeats 1000000 in
theorem isProgram_calls(kv:Value)(kind arg:Int)(ks:List KindS)(ok:Nat->Prop)(w:World)(hk:KindsAt ok w kv ks)(hl:ks.length<=9223372036854775806)(hl2:∀k∈ks,k.kids.length<=9223372036854775806) :
  Calls Tryz.prog 82 #[.agg #[kv,.int .i64 kind,.int .i64 arg]] w fun e w'=>e= .returned (.bool (progB ks kind arg))/\Below w.heap.size w w':=by
 obtain⟨a,cap,rfl,hc⟩:=hk
 by_cases hR:rangeB ks.length 1 5=true
 case neg=>
  go_enter Tryz.func82,Tryz.ntmps82
  go_wp2_with (go_at_call 141;refine(within_calls _ _ _ _).mono ?_;rintro e w' ⟨rfl,rfl⟩)
  go_ret
  exact⟨by simp[progB,hR],(Below.refl _ _).alloc (Nat.le_refl _) _⟩
 go_enter Tryz.func82,Tryz.ntmps82
 go_wp2_with (go_at_call 141;refine(within_calls _ _ _ _).mono ?_;rintro e w' ⟨rfl,rfl⟩)
 go_loopw [13] (fun i wr=>∃k:Nat,k<=ks.length/\i= .int .i64 k/\ks.all (kindB ks.length)=(ks.drop k).all (kindB ks.length)/\Below w.heap.size w wr/\BoxAt wr w.heap.size 41 #[.slice a ks.length cap,.int .i64 kind,.int .i64 arg]) (fun i _=>ks.length - (intOf i).toNat)
 case atStart=>exact⟨0,Nat.zero_le _,rfl,rfl,(Below.refl _ _).alloc (Nat.le_refl _) _,BoxAt.new _ _ _⟩
 case round=>
  obtain⟨k,hk,rfl,hall,hb,hbox⟩:=hrel
  have HA:Hid (ks.all (kindB ks.length)=(ks.drop k).all (kindB ks.length)):=hall
  clear hall
  have HB:Hid (BoxAt wr w.heap.size 41 #[.slice a ks.length cap,.int .i64 kind,.int .i64 arg]):=hbox
  have hlt':=hbox.lt
  have b0:=hbox.cell (o:=0) rfl
  have b1:=hbox.cell (o:=1) rfl
  have b2:=hbox.cell (o:=2) rfl
  clear hbox
  by_cases hlt:k < ks.length
  ·obtain⟨c,hcc⟩:∃c,ks[k]?= some c:=⟨_,List.getElem?_eq_getElem hlt⟩
   obtain⟨b,o,kv,rfl,hok,hbw,c0,c1,c2,hkk⟩:=hc k c hcc
   have d0:=(hb.cell (p:=⟨b,o+k*3,none⟩) hbw).trans c0
   have d1:=(hb.cell (p:=⟨b,o+k*3+1,none⟩) hbw).trans c1
   have d2:=(hb.cell (p:=⟨b,o+k*3+2,none⟩) hbw).trans c2
   have HS:Hid ((ks.drop k).all (kindB ks.length)=(kindB ks.length c&&(ks.drop (k+1)).all (kindB ks.length))):=all_drop_get _ ks k c hcc
   have hcl:=hl2 c (List.mem_of_getElem? hcc)
   obtain⟨A,B,kids⟩:=c
   obtain⟨a',cap',rfl,h'⟩:=hkk
   have HW:Hid (∀o:Obj,Calls Tryz.prog 142 #[.agg #[.int .i64 A,.int .i64 B,.slice a' kids.length cap'],.int .i64 ks.length] (wr.alloc o) fun e w'=>e= .returned (.bool (kindB ks.length ⟨A,B,kids⟩))/\Below (wr.alloc o).heap.size (wr.alloc o) w'):=fun o=>
    isKind_calls A B ks.length _ kids (fun _=>True) (by omega) (by omega) _ (by
     refine⟨a',cap',rfl,fun j c hj=> ?_⟩
     obtain⟨b',o',ha,_,hb',e0,e1⟩:=h' j c hj
     have hz:=hb.size
     exact⟨b',o',ha,trivial,by simp;omega,((hb.trans ((Below.refl _ _).alloc hb.size _)).cell (p:=⟨b',_,none⟩) hb').trans e0,((hb.trans ((Below.refl _ _).alloc hb.size _)).cell (p:=⟨b',_,none⟩) hb').trans e1⟩) (by simpa using hcl)
   simp only at d0 d1 d2
   clear hc h' c0 c1 c2
   by_cases hkB:kindB ks.length ⟨A,B,kids⟩=true
   ·go_wp2_with fail
    refine(HW.out _).mono ?_
    rintro e w' ⟨rfl,hb1⟩
    go_wp2_with fail
    go_roundw
    case rel=>exact⟨k+1,by omega,by go_num,by rw[HA.out,HS.out];simp[hkB],(hb.trans ((Below.refl _ _).alloc hb.size _)).trans (hb1.mono (by have:=hb.size;simp;omega)),(HB.out.alloc _).below hb1 (by simp;omega)⟩
    case measure=>simp[intOf];omega
   ·go_wp2_with fail
    refine(HW.out _).mono ?_
    rintro e w' ⟨rfl,hb1⟩
    go_wp2_with fail
    go_ret
    exact⟨by simp only[progB];rw[HA.out,HS.out];simp[hkB],(hb.trans ((Below.refl _ _).alloc hb.size _)).trans (hb1.mono (by have:=hb.size;simp;omega))⟩
  ·have hall:Hid (ks.all (kindB ks.length)=true):=by rw[HA.out,List.drop_eq_nil_of_le (by omega)];rfl
   by_cases hn:numB kind ks.length=true
   ·go_wp2_with (first
      |(go_at_call 143;refine(isNumber_calls _ _ (by omega) (by omega) _).mono ?_;rintro e w' ⟨rfl,rfl⟩)
      |(go_at_call 141;refine(within_calls _ _ _ _).mono ?_;rintro e w' ⟨rfl,rfl⟩))
    go_ret
    exact⟨by simp[progB,hall.out,hR,hn],hb⟩
   ·go_wp2_with (first
      |(go_at_call 143;refine(isNumber_calls _ _ (by omega) (by omega) _).mono ?_;rintro e w' ⟨rfl,rfl⟩)
      |(go_at_call 141;refine(within_calls _ _ _ _).mono ?_;rintro e w' ⟨rfl,rfl⟩))
    go_ret
    exact⟨by simp[progB,hn],hb⟩
set_option maxHeartbeats 400000 in
theorem small_calls(i:Nat)(hi:i < 10)(w:World) :
  Calls Tryz.prog 227 #[.int .i64 i] w fun e w'=>e= .returned (.string ⟨#[digit i]⟩)/\w'=w:=by
 have h:i=0\/i=1\/i=2\/i=3\/i=4\/i=5\/i=6\/i=7\/i=8\/i=9:=by omega
 rcases h with rfl|rfl|rfl|rfl|rfl|rfl|rfl|rfl|rfl|rfl
 all_goals
  go_enter Tryz.func227,Tryz.ntmps227
  go_wp2
  go_ret
  exact⟨rfl,rfl⟩
set_option maxHeartbeats 400000 in
theorem formatInt_calls(i:Nat)(hi:i < 10)(w:World) :
  Calls Tryz.prog 217 #[.int .i64 i,.int .i64 10] w fun e w'=>e= .returned (.string ⟨#[digit i]⟩)/\w'=w:=by
 go_enter Tryz.func217,Tryz.ntmps217
 go_wp2_with (go_at_call 227;refine(small_calls i hi _).mono ?_;rintro e w' ⟨rfl,rfl⟩)
 go_ret
 exact⟨rfl,rfl⟩
set_option maxHeartbeats 400000 in
theorem itoa_calls(i:Nat)(hi:i < 10)(w:World) :
  Calls Tryz.prog 171 #[.int .i64 i] w fun e w'=>e= .returned (.string ⟨#[digit i]⟩)/\w'=w:=by
 have h2:Calls Tryz.prog 196 #[.int .i64 i] w fun e w'=>e= .returned (.string ⟨#[digit i]⟩)/\w'=w:=by
  go_enter Tryz.func196,Tryz.ntmps196
  go_wp2_with (go_at_call 217;refine(formatInt_calls i hi _).mono ?_;rintro e w' ⟨rfl,rfl⟩)
  go_ret
  exact⟨rfl,rfl⟩
 go_enter Tryz.func171,Tryz.ntmps171
 go_wp2_with (go_at_call 196;refine h2.mono ?_;rintro e w' ⟨rfl,rfl⟩)
 go_ret
 exact⟨rfl,rfl⟩
set_option maxHeartbeats 400000 in
theorem first_calls(a:Option Addr)(len cap:Nat)(kind arg:Int)(w:World) :
  Calls Tryz.prog 50 #[.agg #[.slice a len cap,.int .i64 kind,.int .i64 arg]] w fun e w'=>e= .returned (taskV ⟨⟨#[]⟩,kind,arg⟩)/\Below w.heap.size w w':=by
 go_enter Tryz.func50,Tryz.ntmps50
 go_wp2
 refine bodyPost_ret (v:=taskV ⟨⟨#[]⟩,kind,arg⟩) (by simp[results,Tryz.results50,go_sem,taskV]) rfl ⟨rfl,?_⟩
 exact((Below.refl _ _).alloc (Nat.le_refl _) _).alloc (by simp) _
set_option maxHeartbeats 1000000 in
theorem value_calls(kv:Value)(kind arg:Int)(ks:List KindS)(t:TaskS)(ok:Nat->Prop)(w:World)(hk:KindsAt ok w kv ks)(hp:progB ks kind arg=true)(h0:0<=t.kind)(h1:t.kind < ks.length)(h2:0<=t.arg)(h3:t.arg<=12) :
  Calls Tryz.prog 85 #[.agg #[kv,.int .i64 kind,.int .i64 arg],taskV t] w fun e w'=>e= .returned (.agg #[.string t.id,.int .i64 (valueOf ks t)])/\Below w.heap.size w w':=by
 obtain⟨id,k,x⟩:=t
 obtain⟨a,cap,rfl,hc⟩:=hk
 simp only at h0 h1 h2 h3
 obtain⟨j,rfl⟩:=Int.eq_ofNat_of_zero_le h0
 have hj:j < ks.length:=by omega
 obtain⟨c,hcc⟩:∃c,ks[j]?= some c:=⟨_,List.getElem?_eq_getElem hj⟩
 obtain⟨b,o,v,rfl,hok,hbw,c0,c1,c2,hkk⟩:=hc j c hcc
 obtain⟨a',cap',rfl,h'⟩:=hkk
 have hkb:kindB ks.length c=true:=by
  simp[progB]at hp
  exact hp.1.1.2 c (List.mem_of_getElem? hcc)
 have hA: -1000<=c.A/\c.A<=1000:=by simp[kindB,rangeB]at hkb;omega
 have hB: -1000<=c.B/\c.B<=1000:=by simp[kindB,rangeB]at hkb;omega
 have HV:Hid (valueOf ks ⟨id,(j:Int),x⟩=c.A*x+c.B):=by simp[Hid,valueOf,kindAt,hcc]
 have hlen:ks.length<=5:=by simp[progB,rangeB]at hp;omega
 have hm1: -12000<=c.A*x:=by
  have:=Int.mul_le_mul_of_nonneg_right hA.1 h2;omega
 have hm2:c.A*x<=12000:=by
  have:=Int.mul_le_mul_of_nonneg_right hA.2 h2;omega
 clear hc h' hp hkb
 have e0:=cell_alloc3 c0
 have e1:=cell_alloc3 c1
 have e2:=cell_alloc3 c2
 unfold taskV
 go_enter Tryz.func85,Tryz.ntmps85
 go_wp2
 refine bodyPost_ret (v:= .agg #[.string id,.int .i64 (c.A*x+c.B)]) (by simp[results,Tryz.results85,go_sem]) rfl ⟨?_,?_⟩
 ·rw[HV.out]
 ·exact((((Below.refl _ _).alloc (Nat.le_refl _) _).alloc (by simp) _).alloc (by simp;omega) _).alloc (by simp;omega) _
set_option maxHeartbeats 400000 in
theorem tasks_in(F:Fence)(n:Nat)(hf:F.fn 83)(hro:F.round=none)(a:Option Addr)(len cap:Nat)(kind arg:Int)(w:World) :
  CallsIn F n Tryz.prog 83 #[.agg #[.slice a len cap,.int .i64 kind,.int .i64 arg]] w fun e w'=>e= .returned (.func (.func 144) #[] #[.pointer (some ⟨w.heap.size,0,none⟩)])/\w'=w.alloc (.cells #[.slice a len cap,.int .i64 kind,.int .i64 arg] 41):=by
 refine callsIn_of_wp Tryz.func83 rfl hf ?_ hro
 simp only[Tryz.ntmps83,List.size_toArray,List.length_cons,List.length_nil,Nat.reduceAdd,Nat.reduceSub,Array.replicate_succ,Array.replicate_zero,List.push_toArray,List.append_toArray,List.nil_append,List.cons_append]
 gi_wp2
 go_ret
 exact⟨rfl,rfl⟩
set_option maxHeartbeats 400000 in
theorem children_in(F:Fence)(n:Nat)(hf:F.fn 115)(hro:F.round=none)(a:Option Addr)(len cap:Nat)(kind arg:Int)(id:ByteArray)(k x:Int)(w:World) :
  CallsIn F n Tryz.prog 115 #[.agg #[.slice a len cap,.int .i64 kind,.int .i64 arg],.agg #[.string id,.int .i64 k,.int .i64 x]] w fun e w'=>
   e= .returned (.func (.func 170) #[] #[.pointer (some ⟨w.heap.size,0,none⟩),.pointer (some ⟨w.heap.size+1,0,none⟩)])/\
   w'=(w.alloc (.cells #[.slice a len cap,.int .i64 kind,.int .i64 arg] 41)).alloc (.cells #[.string id,.int .i64 k,.int .i64 x] 62):=by
 refine callsIn_of_wp Tryz.func115 rfl hf ?_ hro
 simp only[Tryz.ntmps115,List.size_toArray,List.length_cons,List.length_nil,Nat.reduceAdd,Nat.reduceSub,Array.replicate_succ,Array.replicate_zero,List.push_toArray,List.append_toArray,List.nil_append,List.cons_append]
 gi_wp2
 go_ret
 exact⟨rfl,rfl⟩
end Go.Proofs.YtfanaanofjhlkaaGreatDoor
namespace Go.Proofs.YtfanaanofjhlkaaGreatDoor
open Go Go.RowKit Go.Shelf
attribute [local go_sem] Oper.semAt_some
theorem childrenFrom_get(id:ByteArray)(x:Int)(kids:List KidS)(i:Nat)(c:KidS)(h:kids[i]?= some c) :
  childrenFrom id x i (kids.drop i)=if c.less<=x then⟨kidId id i,c.kind,x - c.less⟩ :: childrenFrom id x (i+1) (kids.drop (i+1))else childrenFrom id x (i+1) (kids.drop (i+1)):=by
 have hk:=(List.getElem?_eq_some_iff.1 h).1
 have he:=(List.getElem?_eq_some_iff.1 h).2
 rw[List.drop_eq_getElem_cons hk,he]
 rfl
abbrev Of(L:List TaskS):={c:TaskS // c∈L}
set_option maxHeartbeats 1000000 in
set_option maxRecDepth 100000 in
theorem children1_seq(n:Nat)(Bp Bt:Nat)(X ok:Nat->Prop)(a:Option Addr)(cap:Nat)(kind arg:Int)(ks:List KindS)(t:TaskS)(L:List TaskS)(hL:children ks t=L)(W:World)
  (hp:BoxAt W Bp 41 #[.slice a ks.length cap,.int .i64 kind,.int .i64 arg]) (ht:BoxAt W Bt 62 #[.string t.id,.int .i64 t.kind,.int .i64 t.arg])
  (hk:KindsAt ok W (.slice a ks.length cap) ks) (hX:∀b,ok b->¬X b) (hXt:¬X Bt)
  (hprog:progB ks kind arg=true) (h0:0<=t.kind) (h1:t.kind < ks.length) (h2:0<=t.arg) (h3:t.arg<=12) (h4:t.id.size<=12) :
  SeqX Fence.wide n Tryz.prog 170 #[.pointer (some ⟨Bp,0,none⟩),.pointer (some ⟨Bt,0,none⟩)] (fun c:Of L=>#[taskV c.1]) X
   (fun xs=>xs.map Subtype.val=L) (fun pre=>pre.map Subtype.val <+: L) W:=by
 intro l J Jx hJ hJx hY hJ0
 obtain⟨id,k,x⟩:=t
 obtain⟨a',cap',hs,hc⟩:=hk
 simp only[Value.slice.injEq]at hs
 obtain⟨rfl,-,rfl⟩:=hs
 simp only at h0 h1 h2 h3 h4 ht
 obtain⟨j,rfl⟩:=Int.eq_ofNat_of_zero_le h0
 have hj:j < ks.length:=by omega
 obtain⟨c,hcc⟩:∃c,ks[j]?= some c:=⟨_,List.getElem?_eq_getElem hj⟩
 obtain⟨b,o,v,rfl,hok,hbw,c0,c1,c2,hkk⟩:=hc j c hcc
 obtain⟨a',cap',rfl,h'⟩:=hkk
 have hkb:kindB ks.length c=true:=by
  simp[progB]at hprog
  exact hprog.1.1.2 c (List.mem_of_getElem? hcc)
 have hlen:ks.length<=5:=by simp[progB,rangeB]at hprog;omega
 have hkl:c.kids.length<=3:=by simp[kindB]at hkb;exact hkb.1.2
 have hkids:∀d∈c.kids,1<=d.less/\d.less<=9/\0<=d.kind/\d.kind < ks.length:=by
  intro d hd;simp[kindB,kidB,numB,rangeB]at hkb;have:=hkb.2 d hd;omega
 have HC:Hid (L=childrenFrom id x 0 c.kids):=by rw[<-hL];simp[Hid,children,kindAt,hcc]
 have p0:=hp.cell (o:=0) rfl
 have t0:=ht.cell (o:=0) rfl
 have t1:=ht.cell (o:=1) rfl
 have t2:=ht.cell (o:=2) rfl
 clear hprog hkb hc hL
 refine callsIn_of_wp Tryz.func170 rfl trivial ?_ rfl
 simp only[Tryz.ntmps170,List.size_toArray,List.length_cons,List.length_nil,Nat.reduceAdd,Nat.reduceSub,Array.replicate_succ,Array.replicate_zero,List.push_toArray,List.append_toArray,List.nil_append,List.cons_append]
 gi_wp2
 gi_loopw [15] (fun i wr=>∃(m:Nat) (pre:List (Of L)),m<=c.kids.length/\i= .int .i64 m/\L=pre.map Subtype.val++childrenFrom id x m (c.kids.drop m)/\J pre wr/\Kept (fun k=>X k\/W.heap.size<=k) W wr)
  (fun i _=>c.kids.length - (intOf i).toNat)
 case atStart=>exact⟨0,[],Nat.zero_le _,rfl,HC.out,hJ0,Kept.refl _ _⟩
 case round=>
  obtain⟨m,pre,hm,rfl,hpre,hJs,hkw⟩:=hrel
  have HP:Hid (L=pre.map Subtype.val++childrenFrom id x m (c.kids.drop m)):=hpre
  clear hpre
  have nt:¬(X Bt\/W.heap.size<=Bt):=fun h=>h.elim hXt (fun h=>Nat.not_lt_of_le h ht.lt)
  have u0:=(ht.kept hkw nt).cell (o:=0) rfl
  have u1:=(ht.kept hkw nt).cell (o:=1) rfl
  have u2:=(ht.kept hkw nt).cell (o:=2) rfl
  have hbt:=(ht.kept hkw nt).lt
  by_cases hlt:m < c.kids.length
  ·obtain⟨d,hd⟩:∃d,c.kids[m]?= some d:=⟨_,List.getElem?_eq_getElem hlt⟩
   obtain⟨b',o',rfl,hok',hbw',d0,d1⟩:=h' m d hd
   have nb:¬(X b'\/W.heap.size<=b'):=fun h=>h.elim (hX b' hok') (fun h=>Nat.not_lt_of_le h hbw')
   have f0:=(hkw.cell (p:=⟨b',o'+m*2,none⟩) hbw' nb).trans d0
   have f1:=(hkw.cell (p:=⟨b',o'+m*2+1,none⟩) hbw' nb).trans d1
   obtain⟨hl1,hl9,hk0,hk1⟩:=hkids d (List.mem_of_getElem? hd)
   have v0:=fun o=>cell_alloc o u0
   have v2:=fun o=>cell_alloc o u2
   have HG:Hid (childrenFrom id x m (c.kids.drop m)=if d.less<=x then⟨kidId id m,d.kind,x - d.less⟩ :: childrenFrom id x (m+1) (c.kids.drop (m+1))else childrenFrom id x (m+1) (c.kids.drop (m+1))):=childrenFrom_get id x c.kids m d hd
   by_cases hless:d.less<=x
   ·gi_wp2
    refine wpIn_wide.2 ?_
    have g0:=(BoxAt.new wr 53 #[Value.int IntKind.i64 d.kind,Value.int IntKind.i64 d.less]).cell (o:=0) rfl
    have g1:=(BoxAt.new wr 53 #[Value.int IntKind.i64 d.kind,Value.int IntKind.i64 d.less]).cell (o:=1) rfl
    have z1:¬9223372036854775807 < id.size+1:=by omega
    have z2:id.size < 9223372036854775807:=by omega
    have z3:IntKind.i64.wrap (x - d.less)=x - d.less:=IntWalk.i64_in _ (by omega)
    go_region_held3 (fun w'=>w'.cell? ⟨Bt,0,none⟩=some (.string id)/\w'.cell? ⟨Bt,2,none⟩=some (.int .i64 x)/\w'.cell? ⟨wr.heap.size,0,none⟩=some (.int .i64 d.kind)/\w'.cell? ⟨wr.heap.size,1,none⟩=some (.int .i64 d.less)) (go_keep)
     (first|(go_at_call 171;refine(itoa_calls m (by omega) _).mono ?_;rintro e w' ⟨rfl,rfl⟩))
    all_goals
     obtain⟨V,hV⟩:∃V,((wr.alloc (Obj.cells #[Value.int IntKind.i64 d.kind,Value.int IntKind.i64 d.less] 53)).alloc (Obj.cells #[Value.string (id++{data:=#[digit m]}),Value.int IntKind.i64 d.kind,Value.int IntKind.i64 (x - d.less)] 62)).drew=V:=⟨_,rfl⟩
     have hbV:Below wr.heap.size wr V:=by
      rw[<-hV];exact(((Below.refl _ wr).alloc (Nat.le_refl _) _).alloc (by simp) _).drew
     have bx:BoxAt V (wr.heap.size+1) 62 #[Value.string (id++{data:=#[digit m]}),Value.int IntKind.i64 d.kind,Value.int IntKind.i64 (x - d.less)]:=by
      rw[<-hV];have:=BoxAt.new (wr.alloc (Obj.cells #[Value.int IntKind.i64 d.kind,Value.int IntKind.i64 d.less] 53)) 62 #[Value.string (id++{data:=#[digit m]}),Value.int IntKind.i64 d.kind,Value.int IntKind.i64 (x - d.less)]
      rw[World.size_alloc]at this;exact this
     have y0:=bx.cell (o:=0) rfl
     have y1:=bx.cell (o:=1) rfl
     have y2:=bx.cell (o:=2) rfl
     rw[hV]
     clear hV
     have hmem:(⟨kidId id m,d.kind,x - d.less⟩:TaskS)∈L:=by rw[HP.out,HG.out,if_pos hless];simp
     obtain⟨q,hq⟩:∃q:Of L,q.1=⟨kidId id m,d.kind,x - d.less⟩:=⟨⟨_,hmem⟩,rfl⟩
     clear hmem
     have hP2:Hid (L=(pre++ [q]).map Subtype.val++childrenFrom id x (m+1) (c.kids.drop (m+1))):=by
      refine HP.out.trans ?_
      rw[HG.out,if_pos hless];simp[hq]
     obtain⟨fn,tmps,assign,body,hy,hR⟩:=hY pre q V (hJ _ _ _ hJs (hbV.mono hkw.size)) (Nat.le_trans hkw.size hbV.size)
     rw[hq]at hy
     clear hq
     dsimp only[taskV,kidId]at hy
     gi_wp2
     refine⟨fun h=>(by cases h),?_⟩
     refine hR.mono ?_
     rintro e W3 (⟨rfl,hJ3,hk3⟩|⟨rfl,hJx3,-⟩)
     ·gi_wp2
      go_roundw
      case rel=>exact⟨m+1,_,by omega,by go_num,hP2.out,hJ3,(hkw.trans (Kept.of_below hbV (fun k _ h=> .inr (Nat.le_trans hkw.size h)))).trans (hk3.mono (fun k _ h=> .inl h))⟩
      case measure=>simp[intOf];omega
     ·gi_wp2
      refine bodyPost_ret (results_none rfl _ _ _) rfl ?_
      exact⟨⟨_,rfl⟩,.inr ⟨_,⟨_,hP2.out.symm⟩,hJx3⟩⟩
   ·have hP2:Hid (L=pre.map Subtype.val++childrenFrom id x (m+1) (c.kids.drop (m+1))):=by
     refine HP.out.trans ?_
     rw[HG.out,if_neg hless]
    gi_wp2
    go_roundw
    case rel=>exact⟨m+1,pre,by omega,by go_num,hP2.out,hJ _ _ _ hJs (((Below.refl _ wr).alloc (Nat.le_refl _) _).mono hkw.size),hkw.trans (Kept.alloc _ _ _)⟩
    case measure=>simp[intOf];omega
  ·have hP2:Hid (L=pre.map Subtype.val):=by
    refine HP.out.trans ?_
    rw[List.drop_eq_nil_of_le (by omega)];simp[childrenFrom]
   gi_wp2
   go_end0
   exact⟨⟨_,rfl⟩,.inl ⟨pre,hP2.out.symm,hJs⟩⟩
end Go.Proofs.YtfanaanofjhlkaaGreatDoor
namespace Go.Proofs.YtfanaanofjhlkaaGreatDoor
open Go Go.RowKit Go.Shelf
attribute [local go_sem] Oper.semAt_some
def Good(ks:List KindS)(t:TaskS):Prop:=0<=t.kind/\t.kind < ks.length/\0<=t.arg/\(t.id.size:Int)+t.arg<=12
theorem kidId_size(id:ByteArray)(i:Nat):(kidId id i).size=id.size+1:=by
 unfold kidId;rw[ByteArray.size_append];rfl
theorem childrenFrom_mem{id:ByteArray}{x:Int}{c:TaskS}:∀{l:List KidS} {i:Nat},c∈childrenFrom id x i l->∃d∈l,∃j,c=⟨kidId id j,d.kind,x - d.less⟩/\d.less<=x
 |[],_,h=>by simp[childrenFrom]at h
 |d :: r,i,h=>by
  unfold childrenFrom at h
  split at h
  ·rename_i hd
   rcases List.mem_cons.1 h with rfl|h
   ·exact⟨d,by simp,i,rfl,hd⟩
   ·obtain⟨e,he,j,hc,hx⟩:=childrenFrom_mem h;exact⟨e,List.mem_cons_of_mem _ he,j,hc,hx⟩
  ·obtain⟨e,he,j,hc,hx⟩:=childrenFrom_mem h;exact⟨e,List.mem_cons_of_mem _ he,j,hc,hx⟩
theorem good_child{ks:List KindS}{kind arg:Int}{t c:TaskS}(hp:progB ks kind arg=true)(hG:Good ks t)(hc:c∈children ks t):Good ks c/\c.arg+1<=t.arg:=by
 obtain⟨h0,h1,h2,h3⟩:=hG
 obtain⟨j,hj⟩:=Int.eq_ofNat_of_zero_le h0
 have hjl:j < ks.length:=by omega
 have hk:kindAt ks t.kind=ks[j]:=by simp[kindAt,hj,hjl]
 obtain⟨d,hd,i,rfl,hx⟩:=childrenFrom_mem hc
 rw[hk]at hd
 have hkb:kindB ks.length ks[j]=true:=by
  simp[progB]at hp
  exact hp.1.1.2 _ (List.getElem_mem hjl)
 simp[kindB,kidB,numB,rangeB]at hkb
 have:=hkb.2 d hd
 refine⟨⟨by dsimp only;omega,by dsimp only;omega,by dsimp only;omega,?_⟩,by dsimp only;omega⟩
 dsimp only
 rw[kidId_size];omega
theorem flatMap_prefix{l L:List TaskS}(D:TaskS->List TaskS)(t:TaskS)(h:l <+: L):(t :: l.flatMap D) <+: (t :: L.flatMap D):=by
 obtain⟨r,rfl⟩:=h
 exact⟨r.flatMap D,by simp⟩
section
variable (ks:List KindS) (kind arg:Int) (a:Option Addr) (cap l B:Nat) (X ok:Nat->Prop) (J Jx:List TaskS->World->Prop)
def Rounds:Prop:=∀m pre t W1,Good ks t->J pre W1->B<=W1.heap.size->YieldAt Fence.wide m Tryz.prog l #[taskV t] W1 fun e W'=>
 (e= .returned (.bool true)/\J (pre++ [t]) W'/\Kept X W1 W')\/(e= .returned (.bool false)/\Jx (pre++ [t]) W'/\Kept (·< B) W1 W')
def WalkSays(t:TaskS)(T:List TaskS):Prop:=∀n pre W,KindsAt ok W (.slice a ks.length cap) ks->J pre W->B<=W.heap.size->
 CallsIn Fence.wide n Tryz.prog 145 #[.agg #[.slice a ks.length cap,.int .i64 kind,.int .i64 arg],taskV t,.func (.yield l) #[] #[]] W fun e W'=>
  (e= .returned (.bool true)/\J (pre++T) W'/\Kept X W W')\/(e= .returned (.bool false)/\∃q,q <+: T/\Jx (pre++q) W'/\Kept (·< B) W W')
variable {ks kind arg a cap l B X ok J Jx}
set_option maxHeartbeats 1000000 in
set_option maxRecDepth 100000 in
theorem walk_step(hp:progB ks kind arg=true)(hX:∀k,X k->k < B)(hok:∀b,ok b->¬X b)
  (hJ:∀s A A',J s A->Below B A A'->J s A') (hJx:∀s A A',Jx s A->Below B A A'->Jx s A') (hY:Rounds ks l B X J Jx) (t:TaskS) (hG:Good ks t) (D:TaskS->List TaskS)
  (ih:∀c,c∈children ks t->WalkSays ks kind arg a cap l B X ok J Jx c (D c)):WalkSays ks kind arg a cap l B X ok J Jx t (t :: (children ks t).flatMap D):=by
 intro n pre W hk h0 hB
 obtain⟨L,hL⟩:∃L,children ks t=L:=⟨_,rfl⟩
 rw[hL]at ih ⊢
 obtain⟨id,k,x⟩:=t
 have nX:∀k,B<=k->¬X k:=fun k h hx=>Nat.not_lt_of_le h (hX k hx)
 refine callsIn_of_wp_marks Tryz.func145 rfl trivial ?_ rfl
 simp only[Tryz.ntmps145,taskV,List.size_toArray,List.length_cons,List.length_nil,Nat.reduceAdd,Nat.reduceSub,Array.replicate_succ,Array.replicate_zero,List.push_toArray,List.append_toArray,List.nil_append,List.cons_append]
 gi_wp2
 obtain⟨V,hV⟩:∃V,((((W.alloc (Obj.cells #[Value.slice a ks.length cap,Value.int IntKind.i64 kind,Value.int IntKind.i64 arg] 41)).alloc (Obj.cells #[Value.string id,Value.int IntKind.i64 k,Value.int IntKind.i64 x] 62)).alloc (Obj.cells #[Value.func (Fn.yield l) #[] #[]] 192)).alloc (Obj.cells #[Value.bool false] 4))=V:=⟨_,rfl⟩
 have hbV:Below W.heap.size W V:=by
  rw[<-hV];exact((((Below.refl _ _).alloc (Nat.le_refl _) _).alloc (by simp) _).alloc (by simp;omega) _).alloc (by simp;omega) _
 have b3:BoxAt V W.heap.size 41 #[Value.slice a ks.length cap,Value.int IntKind.i64 kind,Value.int IntKind.i64 arg]:=by
  rw[<-hV];exact(((BoxAt.new W _ _).alloc _).alloc _).alloc _
 have b4:BoxAt V (W.heap.size+1) 62 #[Value.string id,Value.int IntKind.i64 k,Value.int IntKind.i64 x]:=by
  rw[<-hV];have:=((BoxAt.new (W.alloc (Obj.cells #[Value.slice a ks.length cap,Value.int IntKind.i64 kind,Value.int IntKind.i64 arg] 41)) 62 #[Value.string id,Value.int IntKind.i64 k,Value.int IntKind.i64 x]).alloc (Obj.cells #[Value.func (Fn.yield l) #[] #[]] 192)).alloc (Obj.cells #[Value.bool false] 4)
  simpa only[World.size_alloc]using this
 have b5:BoxAt V (W.heap.size+1+1) 192 #[Value.func (Fn.yield l) #[] #[]]:=by
  rw[<-hV];have:=(BoxAt.new ((W.alloc (Obj.cells #[Value.slice a ks.length cap,Value.int IntKind.i64 kind,Value.int IntKind.i64 arg] 41)).alloc (Obj.cells #[Value.string id,Value.int IntKind.i64 k,Value.int IntKind.i64 x] 62)) 192 #[Value.func (Fn.yield l) #[] #[]]).alloc (Obj.cells #[Value.bool false] 4)
  simpa only[World.size_alloc]using this
 have b6:BoxAt V (W.heap.size+1+1+1) 4 #[Value.bool false]:=by
  rw[<-hV];have:=BoxAt.new (((W.alloc (Obj.cells #[Value.slice a ks.length cap,Value.int IntKind.i64 kind,Value.int IntKind.i64 arg] 41)).alloc (Obj.cells #[Value.string id,Value.int IntKind.i64 k,Value.int IntKind.i64 x] 62)).alloc (Obj.cells #[Value.func (Fn.yield l) #[] #[]] 192)) 4 #[Value.bool false]
  simpa only[World.size_alloc]using this
 rw[hV]
 clear hV
 have hsV:=hbV.size
 obtain⟨fn,tmps,assign,body,hy,hR⟩:=hY (n - 1) pre ⟨id,k,x⟩ V hG (hJ _ _ _ h0 (hbV.mono hB)) (Nat.le_trans hB hsV)
 dsimp only[taskV]at hy
 rw[hy]
 gi_wp2
 refine⟨fun h=>(by cases h),?_⟩
 refine hR.mono ?_
 rintro e W1 (⟨rfl,hJ1,hk1⟩|⟨rfl,hJx1,hk1⟩)
 case inr=>
  have d6:=b6.kept hk1 (by omega)
  have c6:=d6.cell (o:=0) rfl
  have g6:=d6.frozen 0
  gi_wp2
  refine⟨.bool false,?_,.inr ⟨rfl,[⟨id,k,x⟩],⟨L.flatMap D,by simp⟩,hJx _ _ _ hJx1 (((Below.refl _ W1)).setCell (p:=⟨W.heap.size+1+1+1,0,none⟩) (by simp;omega) _),?_⟩⟩
  ·have c7:=(BoxAt.cell (o:=0) (show BoxAt (W1.setCell ⟨W.heap.size+1+1+1,0,none⟩ (.bool false)) _ _ #[.bool false]from Boxed.set (.bool false) d6) rfl)
   simp[results,Tryz.f145,go_sem,c7]
  ·exact((Kept.of_below hbV (fun k h h'=>absurd h (by omega))).trans hk1).setCell (.inr (by simp;omega)) _
 case inl=>
  clear hy hR
  have e3:=b3.kept hk1 (nX _ (by omega))
  have e4:=b4.kept hk1 (nX _ (by omega))
  have e5:=b5.kept hk1 (nX _ (by omega))
  have e6:=b6.kept hk1 (nX _ (by omega))
  have q0:=e3.cell (o:=0) rfl
  have q1:=e3.cell (o:=1) rfl
  have q2:=e3.cell (o:=2) rfl
  have r0:=e4.cell (o:=0) rfl
  have r1:=e4.cell (o:=1) rfl
  have r2:=e4.cell (o:=2) rfl
  have hfC:Fence.wide.fn 115:=trivial
  gi_wp2_with ((try refine⟨fun h=>(by cases h),?_⟩);gi_at_call 115;refine(children_in Fence.wide (n - 1) trivial rfl _ _ _ _ _ _ _ _ _).mono ?_;rintro e w' ⟨rfl,rfl⟩)
  obtain⟨Z,hZ⟩:∃Z,((W1.alloc (Obj.cells #[Value.slice a ks.length cap,Value.int IntKind.i64 kind,Value.int IntKind.i64 arg] 41)).alloc (Obj.cells #[Value.string id,Value.int IntKind.i64 k,Value.int IntKind.i64 x] 62))=Z:=⟨_,rfl⟩
  have sZ:Z.heap.size=W1.heap.size+2:=by rw[<-hZ];simp
  have hbZ:Below W1.heap.size W1 Z:=by
   rw[<-hZ];exact((Below.refl _ _).alloc (Nat.le_refl _) _).alloc (by simp) _
  have zp:BoxAt Z W1.heap.size 41 #[Value.slice a ks.length cap,Value.int IntKind.i64 kind,Value.int IntKind.i64 arg]:=by
   rw[<-hZ];exact(BoxAt.new W1 _ _).alloc _
  have zt:BoxAt Z (W1.heap.size+1) 62 #[Value.string id,Value.int IntKind.i64 k,Value.int IntKind.i64 x]:=by
   rw[<-hZ];have:=BoxAt.new (W1.alloc (Obj.cells #[Value.slice a ks.length cap,Value.int IntKind.i64 kind,Value.int IntKind.i64 arg] 41)) 62 #[Value.string id,Value.int IntKind.i64 k,Value.int IntKind.i64 x]
   simpa only[World.size_alloc]using this
  rw[hZ]
  clear hZ q0 q1 q2 r0 r1 r2
  have hs1:=hk1.size
  have z3:=e3.below hbZ (by have:=e3.lt;omega)
  have z4:=e4.below hbZ (by have:=e4.lt;omega)
  have z5:=e5.below hbZ (by have:=e5.lt;omega)
  have z6:=e6.below hbZ (by have:=e6.lt;omega)
  have l6:=e6.lt
  have hkZ:Kept X W Z:=((Kept.of_below hbV (fun k h h'=>absurd h (by omega))).trans hk1).trans (Kept.of_below hbZ (fun k h h'=>absurd h (by omega)))
  have kindsZ:KindsAt ok Z (.slice a ks.length cap) ks:=hk.kept hkZ hok
  obtain⟨g0,g1,g2,g3⟩:=hG
  simp only at g0 g1 g2 g3
  have HB:Hid (∀{A A':World},Below Z.heap.size A A'->Below B A A'):=fun h=>h.mono (by omega)
  have hseq:∀Y,Below Z.heap.size Z Y->Y.heap.size=Z.heap.size+2->SeqX Fence.wide (n - 1) Tryz.prog 170 #[.pointer (some ⟨W1.heap.size,0,none⟩),.pointer (some ⟨W1.heap.size+1,0,none⟩)] (fun c:Of L=>#[taskV c.1]) (fun k=>X k\/k=Z.heap.size+1)
    (fun xs=>xs.map Subtype.val=L) (fun pre=>pre.map Subtype.val <+: L) Y:=fun Y hbY sY=>by
   refine children1_seq (n - 1) W1.heap.size (W1.heap.size+1) (fun k=>X k\/k=Z.heap.size+1) (fun b=>ok b/\b < Z.heap.size) a cap kind arg ks ⟨id,k,x⟩ L hL Y (zp.below hbY (by omega)) (zt.below hbY (by omega))
    (kindsZ.below.kept (Kept.of_below (X:=fun k=>Z.heap.size<=k) hbY (fun _ _ h=>h)) (fun b h=>by omega)) ?_ ?_ hp g0 g1 g2 (by dsimp only;omega) (by dsimp only;omega)
   ·rintro b h (h'|h')
    ·exact hok b h.1 h'
    ·omega
   ·rintro(h'|h')
    ·exact nX _ (by omega) h'
    ·omega
  refine range_law (F:=Fence.wide) (n:=n) (w:=Z) rfl (fun h=>(by cases h)) (gf:=170) (lb:=#[.pointer (some ⟨W1.heap.size,0,none⟩),.pointer (some ⟨W1.heap.size+1,0,none⟩)]) (by rfl) trivial (enters_of Tryz.func170 (by kernel_rfl) rfl)
   X (fun k h=>by have:=hX k h;omega) hseq
   (fun _=>by rfl)
   (fun pre' U=>J (pre++⟨id,k,x⟩ :: (pre'.map Subtype.val).flatMap D) U/\Kept X Z U)
   (fun c pre' U=>c= .ret/\(∃q,q <+: (⟨id,k,x⟩ :: (pre'.map Subtype.val).flatMap D)/\Jx (pre++q) U)/\Kept (·< B) W U/\BoxAt U (W.heap.size+1+1+1) 4 #[.bool false])
   (fun s A A' h hb=>⟨hJ _ _ _ h.1 (HB.out hb),h.2.later hb (Nat.le_refl _)⟩)
   (fun c s A A' h hb=>⟨h.1,h.2.1.imp fun q h=>⟨h.1,hJx _ _ _ h.2 (HB.out hb)⟩,h.2.2.1.later hb (by omega),h.2.2.2.below hb (by omega)⟩)
   ⟨by simpa using hJ _ _ _ hJ1 (hbZ.mono (by omega)),Kept.refl _ _⟩
   (fun pre' c a' U=>∃Bx,Z.heap.size+2<=Bx/\BoxAt U Bx 62 #[.string c.1.id,.int .i64 c.1.kind,.int .i64 c.1.arg]/\a'=Act.mk #[Value.agg #[Value.slice a ks.length cap,Value.int IntKind.i64 kind,Value.int IntKind.i64 arg],
     Value.agg #[Value.string id,Value.int IntKind.i64 k,Value.int IntKind.i64 x],
     Value.func (Fn.yield l) #[] #[],Value.pointer (some {block:=W.heap.size,off:=0}),
     Value.pointer (some {block:=W.heap.size+1,off:=0}),
     Value.pointer (some {block:=W.heap.size+1+1,off:=0}),
     Value.pointer (some {block:=W.heap.size+1+1+1,off:=0}),Value.pointer (some {block:=Bx,off:=0}),Value.func (Fn.yield l) #[] #[],
     Value.agg #[Value.string id,Value.int IntKind.i64 k,Value.int IntKind.i64 x],Value.bool true,
     Value.bool false,
     Value.agg #[Value.slice a ks.length cap,Value.int IntKind.i64 kind,Value.int IntKind.i64 arg],
     Value.agg #[Value.string id,Value.int IntKind.i64 k,Value.int IntKind.i64 x],
     Value.func (Fn.func 170) #[]
      #[Value.pointer (some {block:=W1.heap.size,off:=0}),
       Value.pointer (some {block:=W1.heap.size+1,off:=0})],
     Value.agg #[.string c.1.id,.int .i64 c.1.kind,.int .i64 c.1.arg],undef,undef,undef,undef,undef] [])
   (fun pre' c a' A A' h hk=>by
    obtain⟨Bx,e1,e2,e3⟩:=h
    exact⟨Bx,e1,e2.kept hk (by omega),e3⟩) ?assign ?body ?done ?stop
  case assign=>
   rintro l' pre' ⟨⟨id',k',x'⟩,hmem⟩ U K ⟨hJU,hkU⟩ hsU hK
   simp only[taskV]
   gi_wp2
   exact hK _ _ (Kept.alloc _ _ _) ⟨hJ _ _ _ hJU (((Below.refl _ U).alloc (Nat.le_refl _) _).mono (by omega)),hkU.trans (Kept.alloc _ _ _)⟩ ⟨U.heap.size,hsU,BoxAt.new U _ _,rfl⟩
  case body=>
   rintro l' pre' ⟨⟨id',k',x'⟩,hmem⟩ a' U ⟨hJU,hkU⟩ ⟨Bx,hBx,bX,rfl⟩ hsU
   simp only at bX
   have u3:=z3.kept hkU (nX _ (by omega))
   have u5:=z5.kept hkU (nX _ (by omega))
   have u6:=z6.kept hkU (nX _ (by omega))
   have q0:=u3.cell (o:=0) rfl
   have q1:=u3.cell (o:=1) rfl
   have q2:=u3.cell (o:=2) rfl
   have q5:=u5.cell (o:=0) rfl
   have r0:=bX.cell (o:=0) rfl
   have r1:=bX.cell (o:=1) rfl
   have r2:=bX.cell (o:=2) rfl
   have hfW:Fence.wide.fn 145:=trivial
   have HI:Hid (∀m,CallsIn Fence.wide m Tryz.prog 145 #[.agg #[.slice a ks.length cap,.int .i64 kind,.int .i64 arg],.agg #[.string id',.int .i64 k',.int .i64 x'],.func (.yield l) #[] #[]] U fun e W'=>
     (e= .returned (.bool true)/\J ((pre++⟨id,k,x⟩ :: (pre'.map Subtype.val).flatMap D)++D ⟨id',k',x'⟩) W'/\Kept X U W')\/(e= .returned (.bool false)/\∃q,q <+: D ⟨id',k',x'⟩/\Jx ((pre++⟨id,k,x⟩ :: (pre'.map Subtype.val).flatMap D)++q) W'/\Kept (·< B) U W'/\W'.cell? ⟨W.heap.size+1+1+1,0,none⟩=some (.bool false)/\W'.frozen? ⟨W.heap.size+1+1+1,0,none⟩=false)):=
    fun m=>(ih ⟨id',k',x'⟩ hmem m _ U (kindsZ.kept hkU hok) hJU (by omega)).mono fun e W' h=>h.elim .inl fun⟨he,q,hq,hj,hk⟩=>
     .inr ⟨he,q,hq,hj,hk,(u6.kept hk (by omega)).cell (o:=0) rfl,(u6.kept hk (by omega)).frozen 0⟩
   gi_wp2_with ((try refine⟨fun h=>(by cases h),?_⟩);gi_at_call 145;refine(CallsIn.inRound l' (HI.out _)).mono ?_;rintro e U1 (⟨rfl,hJ2,hk2⟩|⟨rfl,q,hq,hJx2,hk2,c6,f6⟩))
   ·exact⟨hk2,by simpa[List.append_assoc]using hJ2,hkU.trans hk2⟩
   ·have v6:=u6.kept hk2 (by omega)
    have hsU1:=hk2.size
    have n6:W.heap.size+1+1+1 < Z.heap.size:=z6.lt
    have kU1:Kept (·< B) W U1:=((hkZ.trans hkU).mono (fun k _ h=>hX k h)).trans hk2
    refine⟨(hk2.mono (fun k _ h=>by omega)).setCell (.inl n6) _,rfl,⟨⟨id,k,x⟩ :: ((pre'.map Subtype.val).flatMap D++q),?_,?_⟩,kU1.setCell (.inr (by simp;omega)) _,Boxed.set (.bool false) v6⟩
    ·obtain⟨r,hr⟩:=hq
     exact⟨r,by simp[<-hr]⟩
    ·refine hJx _ _ _ ?_ ((Below.refl _ U1).setCell (p:=⟨W.heap.size+1+1+1,0,none⟩) (by simp;omega) _)
     simpa[List.append_assoc]using hJx2
  case done=>
   rintro Dd xs U hD hS ⟨hJU,hkU⟩ hK
   have u6:=z6.kept hkU (nX _ (by omega))
   have c6:=u6.cell (o:=0) rfl
   have f6:=u6.frozen 0
   have n6:W.heap.size+1+1+1 < Z.heap.size:=z6.lt
   gi_wp2
   have hK':(U.setCell ⟨W.heap.size+1+1+1,0,none⟩ (.bool true)).heap[Dd]?= some (.deferred (some [])):=(Below.heap_setCell U ⟨W.heap.size+1+1+1,0,none⟩ (.bool true) Dd (by simp;omega)).trans hK
   refine⟨by simp,.inl ⟨_,_,rfl,run_takeDeferred hK',?_⟩⟩
   have hkF:Kept (·= Dd) (U.setCell ⟨W.heap.size+1+1+1,0,none⟩ (.bool true)) ((U.setCell ⟨W.heap.size+1+1+1,0,none⟩ (.bool true)).putObj Dd (.deferred none)):=Kept.putObj _ _ _ rfl
   have hc6:=((show BoxAt (U.setCell ⟨W.heap.size+1+1+1,0,none⟩ (.bool true)) _ _ #[.bool true]from Boxed.set (.bool true) u6).kept hkF (by omega)).cell (o:=0) rfl
   have hDs:=(Array.getElem?_eq_some_iff.1 hK).1
   have hbF:Below (W.heap.size+1+1+1) U ((U.setCell ⟨W.heap.size+1+1+1,0,none⟩ (.bool true)).putObj Dd (.deferred none)):=
    ((Below.refl _ U).setCell (p:=⟨W.heap.size+1+1+1,0,none⟩) (by simp) _).trans (hkF.below (by have:=(Array.getElem?_eq_some_iff.1 hK').1;omega) (fun k e=>by omega))
   refine⟨.bool true,?_,.inl ⟨rfl,?_,(hkZ.trans hkU).later hbF (by omega)⟩⟩
   ·simp[results,Tryz.f145,go_sem,hc6]
   ·rw[<-hS];exact hJ _ _ _ hJU (hbF.mono (by omega))
  case stop=>
   rintro Dd c pre' U hD hpre ⟨rfl,⟨q,hq,hJU⟩,hkU,u6⟩ hK
   gi_wp2
   refine⟨by simp,.inl ⟨_,_,rfl,run_takeDeferred hK,?_⟩⟩
   have n6:W.heap.size+1+1+1 < Z.heap.size:=z6.lt
   have hkF:Kept (·= Dd) U (U.putObj Dd (.deferred none)):=Kept.putObj _ _ _ rfl
   have hc6:=(u6.kept hkF (by omega)).cell (o:=0) rfl
   have hbF:Below W.heap.size U (U.putObj Dd (.deferred none)):=hkF.below (by have:=(Array.getElem?_eq_some_iff.1 hK).1;omega) (fun k e=>by omega)
   refine⟨.bool false,?_,.inr ⟨rfl,q,?_,hJx _ _ _ hJU (hbF.mono hB),hkU.later hbF (Nat.le_refl _)⟩⟩
   ·simp[results,Tryz.f145,go_sem,hc6]
   ·refine hq.trans ?_
    exact flatMap_prefix D _ hpre
theorem walk_says(hp:progB ks kind arg=true)(hX:∀k,X k->k < B)(hok:∀b,ok b->¬X b)
  (hJ:∀s A A',J s A->Below B A A'->J s A') (hJx:∀s A A',Jx s A->Below B A A'->Jx s A') (hY:Rounds ks l B X J Jx) :
  ∀(f:Nat) (t:TaskS),Good ks t->t.arg<=f->WalkSays ks kind arg a cap l B X ok J Jx t (tree ks f t)
 |0,t,hG,hf=>by
  have he:children ks t=[]:=by
   refine List.eq_nil_iff_forall_not_mem.2 fun c hc=> ?_
   have h:=good_child hp hG hc
   have h2:=h.1.2.2.1
   omega
  have:=walk_step (a:=a) (cap:=cap) hp hX hok hJ hJx hY t hG (fun _=>[]) (fun c hc=>by rw[he]at hc;cases hc)
  rw[he]at this
  exact this
 |f+1,t,hG,hf=>walk_step hp hX hok hJ hJx hY t hG (tree ks f) fun c hc=>walk_says hp hX hok hJ hJx hY f c (good_child hp hG hc).1 (by have:=(good_child hp hG hc).2;omega)
end
end Go.Proofs.YtfanaanofjhlkaaGreatDoor
namespace Go.Proofs.YtfanaanofjhlkaaGreatDoor
open Go
def idl(t:TaskS):List UInt8:=t.id.data.toList
theorem idl_kid(id:ByteArray)(i:Nat)(k x:Int):idl ⟨kidId id i,k,x⟩=id.data.toList++ [digit i]:=by
 simp[idl,kidId,ByteArray.data_append]
theorem digit_lt{i j:Nat}(h:i < j)(hj:j < 100):digit i < digit j:=by
 unfold digit
 rw[UInt8.lt_iff_toNat_lt]
 simp only[UInt8.toNat_ofNat']
 omega
theorem lex_self(p r:List UInt8)(d:UInt8):p < p++d :: r:=by
 induction p with
 |nil=>exact List.Lex.nil
 |cons a p ih=>exact List.Lex.cons ih
theorem lex_split(p r s:List UInt8){d e:UInt8}(h:d < e):p++d :: r < p++e :: s:=by
 induction p with
 |nil=>exact List.Lex.rel h
 |cons a p ih=>exact List.Lex.cons ih
theorem childrenFrom_order(id:ByteArray)(x:Int):∀(l:List KidS) (i:Nat),i+l.length < 100->
  (childrenFrom id x i l).Pairwise (fun c d=>∃a b,a < b/\b < 100/\c.id=kidId id a/\d.id=kidId id b)/\∀c∈childrenFrom id x i l,∃a,i<=a/\a < 100/\c.id=kidId id a
 |[],_,_=>by simp[childrenFrom]
 |k :: r,i,h=>by
  simp only[List.length_cons]at h
  obtain⟨h1,h2⟩:=childrenFrom_order id x r (i+1) (by omega)
  unfold childrenFrom
  split
  ·refine⟨List.pairwise_cons.2 ⟨fun d hd=> ?_,h1⟩,fun c hc=> ?_⟩
   ·obtain⟨b,hb,hb',he⟩:=h2 d hd
    exact⟨i,b,by omega,hb',rfl,he⟩
   ·rcases List.mem_cons.1 hc with rfl|hc
    ·exact⟨i,Nat.le_refl _,by omega,rfl⟩
    ·obtain⟨b,hb,hb',he⟩:=h2 c hc
     exact⟨b,by omega,hb',he⟩
  ·exact⟨h1,fun c hc=>by obtain⟨b,hb,hb',he⟩:=h2 c hc;exact⟨b,by omega,hb',he⟩⟩
theorem tree_order(ks:List KindS)(hk:∀k:Int,(kindAt ks k).kids.length<=3):∀(f:Nat) (t:TaskS),
  (tree ks f t).Pairwise (fun a b=>idl a < idl b)/\∀u∈tree ks f t,∃r,idl u=idl t++r
 |0,t=>by simp[tree]
 |f+1,t=>by
  have ho:=childrenFrom_order t.id t.arg (kindAt ks t.kind).kids 0 (by have:=hk t.kind;omega)
  have hc:∀c∈children ks t,∃a,c.id=kidId t.id a:=fun c h=>let⟨a,_,_,e⟩:=ho.2 c h;⟨a,e⟩
  have hid:∀(c:TaskS) (a:Nat),c.id=kidId t.id a->idl c=idl t++ [digit a]:=fun c a e=>by
   have:=idl_kid t.id a c.kind c.arg
   rw[<-e]at this;exact this
  have below:∀u∈(children ks t).flatMap (tree ks f),∃a r,idl u=idl t++digit a :: r:=fun u hu=>by
   obtain⟨c,hcm,hu⟩:=List.mem_flatMap.1 hu
   obtain⟨a,ha⟩:=hc c hcm
   obtain⟨r,hr⟩:=(tree_order ks hk f c).2 u hu
   exact⟨a,r,by rw[hr,hid c a ha];simp⟩
  refine⟨?_,fun u hu=> ?_⟩
  ·show(t :: (children ks t).flatMap (tree ks f)).Pairwise _
   refine List.pairwise_cons.2 ⟨fun u hu=> ?_,?_⟩
   ·obtain⟨a,r,e⟩:=below u hu
    rw[e];exact lex_self _ _ _
   ·refine List.pairwise_flatMap.2 ⟨fun c _=>(tree_order ks hk f c).1,ho.1.imp ?_⟩
    rintro c d ⟨a,b,hab,hb,ea,eb⟩ u hu v hv
    obtain⟨r,hr⟩:=(tree_order ks hk f c).2 u hu
    obtain⟨s,hs⟩:=(tree_order ks hk f d).2 v hv
    rw[hr,hs,hid c a ea,hid d b eb,List.append_assoc,List.append_assoc]
    exact lex_split _ _ _ (digit_lt hab hb)
  ·rcases List.mem_cons.1 hu with rfl|hu
   ·exact⟨[],by simp⟩
   ·obtain⟨a,r,e⟩:=below u hu
    exact⟨_,e⟩
end Go.Proofs.YtfanaanofjhlkaaGreatDoor
namespace Go.Proofs.YtfanaanofjhlkaaGreatDoor
open Go Go.RowKit Go.Shelf
def allTasks(ks:List KindS)(kind arg:Int):List TaskS:=tree ks 12 ⟨⟨#[]⟩,kind,arg⟩
abbrev GoodT(ks:List KindS):={t:TaskS // Good ks t}
set_option maxHeartbeats 1000000 in
set_option maxRecDepth 100000 in
theorem tasks1_seq(n:Nat)(Bp:Nat)(X ok:Nat->Prop)(a:Option Addr)(cap:Nat)(kind arg:Int)(ks:List KindS)(W:World)
  (hp:BoxAt W Bp 41 #[.slice a ks.length cap,.int .i64 kind,.int .i64 arg])
  (hk:KindsAt ok W (.slice a ks.length cap) ks) (hX:∀k,X k->k < W.heap.size) (hok:∀b,ok b->¬X b) (hprog:progB ks kind arg=true) :
  SeqX Fence.wide n Tryz.prog 144 #[.pointer (some ⟨Bp,0,none⟩)] (fun t:GoodT ks=>#[taskV t.1]) X
   (fun xs=>xs.map Subtype.val=allTasks ks kind arg) (fun pre=>pre.map Subtype.val <+: allTasks ks kind arg) W:=by
 intro l J Jx hJ hJx hY h0
 have hG:Good ks ⟨⟨#[]⟩,kind,arg⟩:=by
  simp[progB,numB,rangeB]at hprog
  exact⟨hprog.1.2.1,by dsimp only;omega,hprog.2.1,by simp[ByteArray.size];omega⟩
 have hG4:=hG.2.2.2
 have hw:=walk_says (l:=l) (B:=W.heap.size) (a:=a) (cap:=cap) (ok:=fun b=>ok b/\b < W.heap.size) (J:=fun pre V=>∃xs:List (GoodT ks),xs.map Subtype.val=pre/\J xs V) (Jx:=fun pre V=>∃xs:List (GoodT ks),xs.map Subtype.val=pre/\Jx xs V) hprog hX (fun b h=>hok b h.1)
  (fun s A A' h hb=>h.imp fun xs h=>⟨h.1,hJ _ _ _ h.2 hb⟩) (fun s A A' h hb=>h.imp fun xs h=>⟨h.1,hJx _ _ _ h.2 hb⟩)
  (fun m pre t W1 hg hj hs=>by
   obtain⟨xs,rfl,hj⟩:=hj
   obtain⟨fn,tmps,assign,body,hy,hR⟩:=hY xs ⟨t,hg⟩ W1 hj hs
   refine⟨fn,tmps,assign,body,hy,hR.1,fun c cs _=> ?_⟩
   obtain⟨e,w',hr,hs⟩:=hR.2 c cs (room_wide _)
   exact⟨e,w',hr.imp (fun h=>⟨h.1,⟨_,by simp,h.2.1⟩,h.2.2⟩) (fun h=>⟨h.1,⟨_,by simp,h.2.1⟩,h.2.2⟩),hs⟩) 12 ⟨⟨#[]⟩,kind,arg⟩ hG (by have:=hG.2.2.2;simp[ByteArray.size]at this;omega)
 have HW:Hid (∀V,Below W.heap.size W V->Calls Tryz.prog 145 #[.agg #[.slice a ks.length cap,.int .i64 kind,.int .i64 arg],.agg #[.string ⟨#[]⟩,.int .i64 kind,.int .i64 arg],.func (.yield l) #[] #[]] V fun e W'=>∃b,e= .returned (.bool b)/\
   ((∃xs:List (GoodT ks),xs.map Subtype.val=allTasks ks kind arg/\J xs W')\/(∃pre:List (GoodT ks),pre.map Subtype.val <+: allTasks ks kind arg/\Jx pre W'))):=fun V hV=>by
  refine(callsIn_wide (n:=n)).1 ((hw n [] V (hk.below.kept (Kept.of_below (X:=fun k=>W.heap.size<=k) hV (fun _ _ h=>h)) (fun b h=>by omega)) ⟨[],rfl,hJ _ _ _ h0 hV⟩ hV.size).mono ?_)
  rintro e W' (⟨rfl,⟨xs,hx,hj⟩,-⟩|⟨rfl,q,hq,⟨xs,hx,hj⟩,-⟩)
  ·exact⟨true,rfl,.inl ⟨xs,by simpa[allTasks]using hx,hj⟩⟩
  ·exact⟨false,rfl,.inr ⟨xs,by rw[hx];simpa[allTasks]using hq,hj⟩⟩
 have p0:=hp.cell (o:=0) rfl
 have p1:=hp.cell (o:=1) rfl
 have p2:=hp.cell (o:=2) rfl
 have hlt:=hp.lt
 have HF:Hid (∀V,Below W.heap.size W V->Calls Tryz.prog 50 #[.agg #[.slice a ks.length cap,.int .i64 kind,.int .i64 arg]] V fun e w'=>e= .returned (.agg #[.string ⟨#[]⟩,.int .i64 kind,.int .i64 arg])/\Below W.heap.size W w'/\
   w'.cell? ⟨Bp,0,none⟩=some (.slice a ks.length cap)/\w'.cell? ⟨Bp,1,none⟩=some (.int .i64 kind)/\w'.cell? ⟨Bp,2,none⟩=some (.int .i64 arg)):=fun V hV=>by
  refine(first_calls a ks.length cap kind arg V).mono ?_
  rintro e w' ⟨rfl,hb⟩
  have hb':=hV.trans (hb.mono hV.size)
  exact⟨rfl,hb',(hb'.cell (p:=⟨Bp,0,none⟩) hlt).trans p0,(hb'.cell (p:=⟨Bp,1,none⟩) hlt).trans p1,(hb'.cell (p:=⟨Bp,2,none⟩) hlt).trans p2⟩
 clear hw hY hG hG4
 refine callsIn_wide.2 ?_
 simp only[List.append_toArray,List.cons_append,List.nil_append]
 go_enter Tryz.func144,Tryz.ntmps144
 go_wp2
 have hd:Below W.heap.size W W.drew:=(Below.refl _ _).drew
 go_region_with (first
  |(go_at_call 50;refine(HF.out _ (by assumption)).mono ?_;rintro e w' ⟨rfl,hb1,s0,s1,s2⟩)
  |(go_at_call 145;refine(HW.out _ (by assumption)).mono ?_;rintro e w' ⟨b,rfl,hend⟩))
 all_goals
  go_end0
  exact⟨⟨_,rfl⟩,hend⟩
end Go.Proofs.YtfanaanofjhlkaaGreatDoor
