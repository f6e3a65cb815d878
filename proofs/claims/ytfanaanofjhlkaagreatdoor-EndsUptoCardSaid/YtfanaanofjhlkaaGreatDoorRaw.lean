import Derived.Test.YtfanaanofjhlkaaGreatDoorTasks
import Derived.Test.YtfanaanofjhlkaaGreatDoorKeptP
import Derived.Test.YtfanaanofjhlkaaGreatDoorRefWork
import Derived.Test.YtfanaanofjhlkaaGreatDoorProgram
namespace Go.Proofs.YtfanaanofjhlkaaGreatDoor
open Go Go.RowKit
def recL(fn:FuncId)(tmps:Array Value)(ps:Array Tmp)(assign body:Code)(D:Nat)(st:LoopState)(pe:Option Code):Loop:=
 {state:=st,pending:=pe,fn,tmps,params:=ps,assign,body,defers:=D}
def roundG(l:Nat)(rec:LoopState->Option Code->Loop)(R:Ending->World->Prop):Exit->Act->World->Prop
 | .normal,_,Z=>Z.heap[l]?= some (.loop (rec .busy none))/\R (.returned (.bool true)) (Z.putObj l (.loop (rec .ready none)))
 | .ret,_,Z=>Z.heap[l]?= some (.loop (rec .busy none))/\R (.returned (.bool false)) (Z.putObj l (.loop (rec .done (some .ret))))
 | .exit i,_,Z=>Z.heap[l]?= some (.loop (rec .busy none))/\R (.returned (.bool false)) (Z.putObj l (.loop (rec .done (some (.exit i)))))
 |_,_,_=>False
variable {P:Program}
theorem yield_round{m l:Nat}{fn:FuncId}{tmps:Array Value}{ps:Array Tmp}{assign body:Code}{D:Nat}{args:Array Value}{W:World}{R:Ending->World->Prop}
  (hl:W.heap[l]?= some (.loop (recL fn tmps ps assign body D .ready none))) (hps:args.size=ps.size)
  (h:∀K:Act->World->Prop,(∀a' U,U.heap[l]?= some (.loop (recL fn tmps ps assign body D .ready none))->body.wpIn (Fence.wide.inRound l) m P (roundG l (recL fn tmps ps assign body D) R) a' (U.putObj l (.loop (recL fn tmps ps assign body D .busy none)))->K a' U)->
   assign.wpIn (Fence.wide.inRound l) m P (Exit.then K (fun _ _ _=>False)) {tmps:=(ps.zip args).foldl (fun t (p,v)=>t.setIfInBounds p v) tmps,defers:=[]} W):YieldAt Fence.wide m P l args W R:=by
 refine⟨fn,_,assign,body,run_yield hl hps,roundIn_of_wpIn trivial (h _ fun a' U ul hb=> ?_)⟩
 refine⟨_,run_beginRound ul rfl,?_⟩
 refine wpIn_mono hb ?_
 rintro e a3 Z hp
 cases e with
 |normal=>exact⟨_,_,run_endRound none hp.1,hp.2⟩
 |ret=>exact⟨_,_,run_endRound (some .ret) hp.1,hp.2⟩
 |exit i=>exact⟨_,_,run_endRound (some (.exit i)) hp.1,hp.2⟩
 |goto t=>exact hp.elim
 |panic ch=>exact hp.elim
 |outgrown=>exact hp.elim
theorem range_lawF{F:Fence}{n:Nat}{g:Operand}{ps:Array Tmp}{assign body:Code}{Q:Exit->Act->World->Prop}{a:Act}{w:World}{gf:Nat}{lb:Array Value}(hro:F.round=none)(h1:F.depth.isSome=true->1<=n)(hFg:F.fn gf)(hg:a.eval g= .func (.func gf) #[] lb)(eg:∀args w,(callFunc gf args).run P w= .ok (.enter gf args) w)
  (hcall:∀fn,CallsIn F (n - 1) P gf (#[.func (.yield (w.heap.size+1)) #[] #[]]++lb) ((w.alloc (.deferred (some []))).alloc (.loop (recL fn a.tmps ps assign body w.heap.size .ready none))) fun e W'=>(∃v,e= .returned v)/\
   ((W'.heap[w.heap.size+1]?= some (.loop (recL fn a.tmps ps assign body w.heap.size .ready none))/\Q .normal {a with defers:={target:= .collected w.heap.size,args:=#[]} :: a.defers} (W'.putObj (w.heap.size+1) (.loop (recL fn a.tmps ps assign body w.heap.size .exhausted none))))\/
    ∃c,W'.heap[w.heap.size+1]?= some (.loop (recL fn a.tmps ps assign body w.heap.size .done (some c)))/\c.wpIn F n P Q {a with defers:={target:= .collected w.heap.size,args:=#[]} :: a.defers} (W'.putObj (w.heap.size+1) (.loop (recL fn a.tmps ps assign body w.heap.size .exhausted (some c)))))) :
  (Code.rangeFunc g ps assign body).wpIn F n P Q a w:=by
 refine wpIn_rangeFunc fun fn _=> ?_
 rw[hro]
 have hc:=hcall fn
 obtain⟨V,hV⟩:∃V,(w.alloc (.deferred (some []))).alloc (.loop (recL fn a.tmps ps assign body w.heap.size .ready none))=V:=⟨_,rfl⟩
 rw[hV]at hc
 refine⟨w.heap.size+1,[{target:= .collected w.heap.size,args:=#[]}],V,{target:= .fn (.func gf) lb,args:=#[.func (.yield (w.heap.size+1)) #[] #[]]},V,gf,
  #[.func (.yield (w.heap.size+1)) #[] #[]]++lb,V,?_,?_,?_,?_,?_,?_⟩
 ·rw[<-hV];exact run_enterLoop_outer _ _ _ _ _
 ·simp only[resolve,hg];simp[go_sem]
 ·intro f' hf';simp[Target.leads]at hf';subst hf';exact hFg
 ·simp[invoke,go_sem,eg]
 ·exact h1
 ·refine hc.mono ?_
  rintro e Z ⟨⟨v,rfl⟩,(⟨hl,hq⟩|⟨c,hl,hq⟩)⟩
  ·exact⟨none,_,run_endLoop hl (by simp[recL]),hq⟩
  ·exact⟨some c,_,run_endLoop hl (by simp[recL]),hq⟩
theorem range_lawG{n:Nat}{g:Operand}{ps:Array Tmp}{assign body:Code}{Q:Exit->Act->World->Prop}{a:Act}{w:World}{gf:Nat}{lb:Array Value}(hg:a.eval g= .func (.func gf) #[] lb)(eg:∀args w,(callFunc gf args).run P w= .ok (.enter gf args) w)
  (hcall:∀rec:LoopState->Option Code->Loop,
   (∀(m:Nat) (args:Array Value) (W:World) (R:Ending->World->Prop),W.heap[w.heap.size+1]?= some (.loop (rec .ready none))->args.size=ps.size->
    (∀K:Act->World->Prop,(∀a' U,U.heap[w.heap.size+1]?= some (.loop (rec .ready none))->body.wpIn (Fence.wide.inRound (w.heap.size+1)) m P (roundG (w.heap.size+1) rec R) a' (U.putObj (w.heap.size+1) (.loop (rec .busy none)))->K a' U)->
     assign.wpIn (Fence.wide.inRound (w.heap.size+1)) m P (Exit.then K (fun _ _ _=>False)) {tmps:=(ps.zip args).foldl (fun t (p,v)=>t.setIfInBounds p v) a.tmps,defers:=[]} W)->YieldAt Fence.wide m P (w.heap.size+1) args W R)->
   CallsIn Fence.wide (n - 1) P gf (#[.func (.yield (w.heap.size+1)) #[] #[]]++lb) ((w.alloc (.deferred (some []))).alloc (.loop (rec .ready none))) fun e W'=>(∃v,e= .returned v)/\
    ((W'.heap[w.heap.size+1]?= some (.loop (rec .ready none))/\Q .normal {a with defers:={target:= .collected w.heap.size,args:=#[]} :: a.defers} (W'.putObj (w.heap.size+1) (.loop (rec .exhausted none))))\/
     ∃c,W'.heap[w.heap.size+1]?= some (.loop (rec .done (some c)))/\c.wpIn Fence.wide n P Q {a with defers:={target:= .collected w.heap.size,args:=#[]} :: a.defers} (W'.putObj (w.heap.size+1) (.loop (rec .exhausted (some c)))))) :
  (Code.rangeFunc g ps assign body).wpIn Fence.wide n P Q a w:=
 range_lawF (F:=Fence.wide) rfl (fun h=>(by cases h)) trivial hg eg (fun fn=>hcall (recL fn a.tmps ps assign body w.heap.size) (fun _ _ _ _ hl hps h=>yield_round hl hps h))
theorem KidsAt.mono{ok ok':Nat->Prop}{W:World}{v:Value}{l:List KidS}(h:KidsAt ok W v l)(hx:∀b,ok b->ok' b):KidsAt ok' W v l:=by
 obtain⟨a,cap,rfl,hc⟩:=h
 refine⟨a,cap,rfl,fun j c hj=> ?_⟩
 obtain⟨b,o,ha,hok,hb⟩:=hc j c hj
 exact⟨b,o,ha,hx b hok,hb⟩
theorem KindsAt.mono{ok ok':Nat->Prop}{W:World}{v:Value}{l:List KindS}(h:KindsAt ok W v l)(hx:∀b,ok b->ok' b):KindsAt ok' W v l:=by
 obtain⟨a,cap,rfl,hc⟩:=h
 refine⟨a,cap,rfl,fun j c hj=> ?_⟩
 obtain⟨b,o,kv,ha,hok,hb,c0,c1,c2,hk⟩:=hc j c hj
 exact⟨b,o,kv,ha,hx b hok,hb,c0,c1,c2,hk.mono hx⟩
theorem row_later{W W':World}{base e size n:Nat}{v:Value}{xs:List Value}(h:W.ownsRow base e size v n xs)(k:Below W.heap.size W W'):W'.ownsRow base e size v n xs:=
 row_below h k (fun g e=>(h.lt g e).2)
def nextB(l:LinkS):Bool:=l.kept.any (·== l.came+1)
def LinkS.on(l:LinkS)(n:Nat):LinkS:={l with came:=l.came+n}
structure Comes(l:LinkS)(n:Nat):Prop where
 each:∀k,k < n->nextB (l.on k)=true
 last:nextB (l.on n)=false
theorem on_on(l:LinkS)(a b:Nat):(l.on a).on b=l.on (a+b):=by
 unfold LinkS.on
 congr 1
 dsimp only
 omega
theorem on_zero(l:LinkS):l.on 0=l:=by
 unfold LinkS.on
 cases l
 simp
def RawAt(w:World)(a:Option Addr)(len:Nat):Prop:=∀j,j < len->∃b o z,a=some ⟨b,o,none⟩/\b < w.heap.size/\w.cell? ⟨b,o+j,none⟩=some (.int .i64 z)/\ -9223372036854775808<=z/\z<=9223372036854775807
theorem program_calls(a:Option Addr)(len cap:Nat)(kind arg:Int)(w:World)(hl2:len<=9223372036854775806)(hkind: -9223372036854775808<=kind/\kind<=9223372036854775807)(harg: -9223372036854775808<=arg/\arg<=9223372036854775807)(hraw:RawAt w a len) :
  Calls Tryz.prog 33 #[.slice a len cap,.int .i64 kind,.int .i64 arg] w fun e w'=>∃va vcap ks k x,e= .returned (.agg #[.slice va ks.length vcap,.int .i64 k,.int .i64 x])/\KindsAt (fun b=>w.heap.size<=b) w' (.slice va ks.length vcap) ks/\progB ks k x=true/\Below w.heap.size w w':=by
 have hfin:∀(e:Ending) (w':World),(∃v k x,e= .returned (.agg #[v,.int .i64 k,.int .i64 x])/\MadeProg w w' v k x/\Below w.heap.size w w')->∃va vcap ks k x,e= .returned (.agg #[.slice va ks.length vcap,.int .i64 k,.int .i64 x])/\KindsAt (fun b=>w.heap.size<=b) w' (.slice va ks.length vcap) ks/\progB ks k x=true/\Below w.heap.size w w':=by
  rintro e w' ⟨v,k,x,rfl,⟨l,hl,hp⟩,hb⟩
  have hat:=hl.at
  have hat':=hat
  obtain⟨va,vcap,rfl,-⟩:=hat'
  exact⟨va,vcap,l.map Prod.fst,k,x,rfl,hat,hp,hb⟩
 rcases Nat.lt_or_ge len 2 with h|h
 ·exact(program_small a len cap kind arg w h harg).mono hfin
 ·obtain⟨b,o,z,rfl,hb,-⟩:=hraw 0 (by omega)
  refine(program_big b o len cap kind arg w h hl2 hkind harg hb (fun j hj=> ?_)).mono hfin
  obtain⟨b',o',z',e,_,h1,h2⟩:=hraw j hj
  cases e
  exact⟨z',h1,h2⟩
end Go.Proofs.YtfanaanofjhlkaaGreatDoor
