import Derived.Conc.LoneCalls
import Derived.RangeFuncNested
import Derived.Orders
import Derived.Test.YtfanaanofjhlkaaGreatDoorList
import Derived.Test.YtfanaanofjhlkaaGreatDoorKeptP
import Derived.Test.YtfanaanofjhlkaaGreatDoorRefWork
import Derived.Test.YtfanaanofjhlkaaGreatDoorMarkerT
import Derived.Test.YtfanaanofjhlkaaGreatDoorProgram
namespace Go.Proofs.YtfanaanofjhlkaaGreatDoor
open Go Go.RowKit
def WalkN(P:Program)(c:Code)(Q:Exit->Act->World->Prop)(a:Act)(w:World):Prop:=
 ∀(b:Frame) (k:List Item) (cs:List Frame),b.kind= .normal->b.roundOf=none->∃e a' w',Q e a' w'/\Arrives P (lone (b.at a (.code c :: k)) cs w) b k cs e a' w'
def WalkO(P:Program)(ops:Array Oper)(l:List Nat)(Q:Exit->Act->World->Prop)(a:Act)(w:World):Prop:=
 ∀(b:Frame) (k:List Item) (cs:List Frame),b.kind= .normal->b.roundOf=none->∃e a' w',Q e a' w'/\Arrives P (lone (b.at a (.inRegion ops l :: k)) cs w) b k cs e a' w'
section
variable {P:Program} {Q:Exit->Act->World->Prop} {a:Act} {w:World}
theorem WalkN.of_wp{c:Code}(h:c.wp P Q a w):WalkN P c Q a w:=fun b k cs _ _=>h b k cs
theorem WalkN.of_wpIn{n:Nat}{c:Code}(h:c.wpIn Fence.wide n P Q a w):WalkN P c Q a w:=fun b k cs _ hb=>by
 obtain⟨e,a',w',h1,h2⟩:=h b k cs hb trivial (room_wide _)
 rw[Frame.atR_of_none hb]at h2
 exact⟨e,a',w',h1,(arrivesIn_iff (fun _ _=>stepsIn_wide) hb).1 h2⟩
theorem WalkN.mono{c:Code}{Q':Exit->Act->World->Prop}(h:WalkN P c Q a w)(hq:∀e a w,Q e a w->Q' e a w):WalkN P c Q' a w:=
 fun b k cs hk hb=>let⟨e,a',w',q,r⟩:=h b k cs hk hb;⟨e,a',w',hq _ _ _ q,r⟩
theorem WalkN.seq{x y:Code}(h:WalkN P x (Exit.then (WalkN P y Q) Q) a w):WalkN P (.seq x y) Q a w:=by
 intro b k cs hk hb
 obtain⟨e,a1,w1,hq,hr⟩:=h b (.code y :: k) cs hk hb
 have go:∀e',e=e'->e'≠ .normal->Q e' a1 w1->∃e a' w',Q e a' w'/\Arrives P (lone (b.at a (.code (.seq x y) :: k)) cs w) b k cs e a' w':=fun e' he hn hq'=>by
  subst he
  exact⟨_,a1,w1,hq',.of_steps (.one step_seq) (.pass (x:= .code y) rfl (fun _ _=> .inl hn) hr)⟩
 cases e with
 |normal=>
  obtain⟨e2,a2,w2,hq2,hr2⟩:=hq b k cs hk hb
  exact⟨e2,a2,w2,hq2,.of_steps (.head step_seq hr) hr2⟩
 |exit id=>exact go _ rfl (by simp) hq
 |goto l=>exact go _ rfl (by simp) hq
 |ret=>exact go _ rfl (by simp) hq
 |panic ch=>exact go _ rfl (by simp) hq
 |outgrown=>exact go _ rfl (by simp) hq
theorem WalkN.step{x y:Code}(h:∀K:Act->World->Prop,(∀a w,WalkN P y Q a w->K a w)->x.wp P (Exit.then K (fun _ _ _=>False)) a w):WalkN P (.seq x y) Q a w:=
 WalkN.seq ((WalkN.of_wp (h _ fun _ _ h=>h)).mono fun e a w hq=>by cases e<;>first|exact hq|exact hq.elim)
theorem WalkN.cond{c:Operand}{x y:Code}{t:Bool}(hc:a.eval c= .bool t)(h:WalkN P (if t then x else y) Q a w):WalkN P (.cond c x y) Q a w:=
 fun b k cs hk hb=>let⟨e,a',w',q,r⟩:=h b k cs hk hb;⟨e,a',w',q,.of_steps (.one (step_cond hc)) r⟩
theorem WalkN.block{id:Nat}{c:Code}(h:WalkN P c (Exit.inBlock id Q) a w):WalkN P (.block id c) Q a w:=by
 intro b k cs hk hb
 obtain⟨e,a1,w1,hq,hr⟩:=h b (.inBlock id :: k) cs hk hb
 cases e with
 |normal=>exact⟨.normal,a1,w1,hq,.head step_block (Steps.trans hr (.one step_inBlock))⟩
 |exit i=>
  by_cases hi:i=id
  ·subst hi
   exact⟨.normal,a1,w1,by simpa[Exit.inBlock]using hq,.head step_block (hr k (by simp[exitTo]))⟩
  ·refine⟨.exit i,a1,w1,by simpa[Exit.inBlock,hi]using hq,fun k' hk'=> .head step_block (hr k' ?_)⟩
   have:(id==i)=false:=by rw[beq_eq_false_iff_ne];exact fun h=>hi h.symm
   simp[exitTo,this,hk']
 |goto l=>exact⟨_,a1,w1,hq,fun k' hk'=> .head step_block (hr k' (by simp[gotoIn,hk']))⟩
 |ret=>exact⟨_,a1,w1,hq,.of_steps (.one step_block) hr⟩
 |panic ch=>exact⟨_,a1,w1,hq,.of_steps (.one step_block) hr⟩
 |outgrown=>exact⟨_,a1,w1,hq,.of_steps (b:=b) (k:=k) (cs:=cs) (e:= .outgrown) (.one step_block) hr⟩
theorem WalkN.loop{c:Code}(I:Nat->Act->World->Prop)(m:Nat)(h0:I m a w)(round:∀m a w,I m a w->WalkN P c (Exit.then (fun a' w'=>∃m',m' < m/\I m' a' w') Q) a w):WalkN P (.loop c) Q a w:=by
 intro b k cs hk hb
 have key:∀m a w,I m a w->∃e a' w',Q e a' w'/\Arrives P (lone (b.at a (.code c :: .inLoop c :: k)) cs w) b k cs e a' w':=by
  intro m
  induction m using Nat.strongRecOn with
  |_ m ih=>
   intro a w hI
   obtain⟨e,a1,w1,hq,hr⟩:=round m a w hI b (.inLoop c :: k) cs hk hb
   have go:∀e',e=e'->e'≠ .normal->Q e' a1 w1->∃e a' w',Q e a' w'/\Arrives P (lone (b.at a (.code c :: .inLoop c :: k)) cs w) b k cs e a' w':=fun e' he hn hq'=>by
    subst he
    exact⟨_,a1,w1,hq',.pass (x:= .inLoop c) rfl (fun _ _=> .inl hn) hr⟩
   cases e with
   |normal=>
    obtain⟨m',hlt,hI'⟩:=hq
    obtain⟨e2,a2,w2,hq2,hr2⟩:=ih m' hlt a1 w1 hI'
    exact⟨e2,a2,w2,hq2,.of_steps (Steps.trans hr (.one step_inLoop)) hr2⟩
   |exit id=>exact go _ rfl (by simp) hq
   |goto l=>exact go _ rfl (by simp) hq
   |ret=>exact go _ rfl (by simp) hq
   |panic ch=>exact go _ rfl (by simp) hq
   |outgrown=>exact go _ rfl (by simp) hq
 obtain⟨e,a',w',hq,hr⟩:=key m a w h0
 exact⟨e,a',w',hq,.of_steps (.one step_loop) hr⟩
theorem WalkN.region{id:Nat}{ops:Array Oper}(h:WalkO P ops (List.range ops.size) Q a w):WalkN P (.region id ops false) Q a w:=
 fun b k cs hk hb=>let⟨e,a',w',q,r⟩:=h b k cs hk hb;⟨e,a',w',q,.of_steps (.one step_region) r⟩
theorem WalkN.region_draw{id:Nat}{ops:Array Oper}(h:∀t,WalkO P ops (Region.schedule (P.follows .mixedOrders) ops t) Q a {w with drawn:=w.drawn+1}):WalkN P (.region id ops true) Q a w:=
 fun b k cs hk hb=>let⟨e,a',w',q,r⟩:=h _ b k cs hk hb;⟨e,a',w',q,.of_steps (.one step_region_draw) r⟩
variable {ops:Array Oper} {i:Nat} {rest:List Nat} {o:Oper}
theorem WalkO.nil(h:Q .normal a w):WalkO P ops [] Q a w:=fun _ _ _ _ _=>⟨.normal,a,w,h,.one step_region_end⟩
theorem finish_at_some(ho:ops[i]?= some o)(b:Frame)(k:List Item)(v:Value):(b.at a (.inRegion ops (i :: rest) :: k)).finish v=b.at (a.put o.dst v) (.inRegion ops rest :: k):=by
 rw[Frame.finish_at,ho];rfl
theorem WalkO.value{v:Value}{w':World}(ho:ops[i]?= some o)(hw:Region.wanted o (yielded ops a.tmps)=true)(hr:(execOp a.eval o).run P w= .ok (.value v) w')(h:WalkO P ops rest Q (a.put o.dst v) w'):WalkO P ops (i :: rest) Q a w:=by
 intro b k cs hk hb
 obtain⟨e,a2,w2,hq,hr2⟩:=h b k cs hk hb
 refine⟨e,a2,w2,hq,.of_steps (.one (step_lone_go ?_)) hr2⟩
 rw[stepG_op ho hw,<-finish_at_some ho]
 simp[stepG.apply,hr]
theorem WalkO.send{c cap s r:Nat}{buf:Array Value}{tm:Bool}{v z:Value}{w':World}(ho:ops[i]?= some o)(hw:Region.wanted o (yielded ops a.tmps)=true)(hr:(execOp a.eval o).run P w= .ok (.comm #[Conc.scase c v z] true .send) w')
  (hc:w'.heap[c]?= some (.chan cap buf false s r tm)) (hroom:buf.size < cap) (h:WalkO P ops rest Q (a.put o.dst undef) (w'.setChan c cap (buf.push v) false (s+1) r tm)):WalkO P ops (i :: rest) Q a w:=by
 intro b k cs hk hb
 obtain⟨e,a2,w2,hq,hr2⟩:=h b k cs hk hb
 refine⟨e,a2,w2,hq,.of_steps (.one ?_) hr2⟩
 have:=Conc.step_lone_send_room (fr:=b.at a (.inRegion ops (i :: rest) :: k)) (cs:=cs) (Conc.stepG_comm ho hw (by rw[hk];simp) hr) hc hroom
 rw[finish_at_some ho]at this
 exact this
theorem WalkO.recv{ok closed tm:Bool}{c cap s r:Nat}{buf:Array Value}{z:Value}{w':World}(ho:ops[i]?= some o)(hw:Region.wanted o (yielded ops a.tmps)=true)(hr:(execOp a.eval o).run P w= .ok (.comm #[Conc.rcase c z] true (.recv ok)) w')
  (hc:w'.heap[c]?= some (.chan cap buf closed s r tm)) (hsome:0 < buf.size) (h:WalkO P ops rest Q (a.put o.dst (Conc.got ok (buf.getD 0 undef) true)) (w'.setChan c cap (buf.extract 1 buf.size) closed s (r+1) tm)):WalkO P ops (i :: rest) Q a w:=by
 intro b k cs hk hb
 obtain⟨e,a2,w2,hq,hr2⟩:=h b k cs hk hb
 refine⟨e,a2,w2,hq,.of_steps (.one ?_) hr2⟩
 have:=Conc.step_lone_recv_buf (fr:=b.at a (.inRegion ops (i :: rest) :: k)) (cs:=cs) ok (Conc.stepG_comm ho hw (by rw[hk];simp) hr) hc hsome
 rw[finish_at_some ho]at this
 exact this
theorem WalkO.shut{ok tm:Bool}{c cap s r:Nat}{z:Value}{w':World}(ho:ops[i]?= some o)(hw:Region.wanted o (yielded ops a.tmps)=true)(hr:(execOp a.eval o).run P w= .ok (.comm #[Conc.rcase c z] true (.recv ok)) w')
  (hc:w'.heap[c]?= some (.chan cap #[] true s r tm)) (h:WalkO P ops rest Q (a.put o.dst (Conc.got ok z false)) w'):WalkO P ops (i :: rest) Q a w:=by
 intro b k cs hk hb
 obtain⟨e,a2,w2,hq,hr2⟩:=h b k cs hk hb
 refine⟨e,a2,w2,hq,.of_steps (.one ?_) hr2⟩
 have:=Conc.step_lone_recv_shut (fr:=b.at a (.inRegion ops (i :: rest) :: k)) (cs:=cs) ok (Conc.stepG_comm ho hw (by rw[hk];simp) hr) hc
 rw[finish_at_some ho]at this
 exact this
def uponV(a:Act)(o:Oper)(K:Act->World->Prop):Result Next->Prop
 | .ok (.value v) w'=>K (a.put o.dst v) w'
 |_=>False
theorem uponV_value(a:Act)(o:Oper)(K:Act->World->Prop)(v:Value)(w':World):uponV a o K (.ok (.value v) w')=K (a.put o.dst v) w':=rfl
theorem WalkO.oper(ho:ops[i]?= some o)(hw:Region.wanted o (yielded ops a.tmps)=true)(h:∀K:Act->World->Prop,(∀a' w',WalkO P ops rest Q a' w'->K a' w')->uponV a o K ((execOp a.eval o).run P w)):WalkO P ops (i :: rest) Q a w:=by
 have h1:=h _ (fun _ _ h=>h)
 unfold uponV at h1
 split at h1
 ·rename_i v w' hr
  exact WalkO.value ho hw hr h1
 ·exact h1.elim
def ordersOf(md:Region.Mode)(ops:Array Oper):Nat->Array Bool->List (List Nat)
 |0,_=>[[]]
 |n+1,listed=>match Region.ready md ops listed with
  |[]=>[[]]
  |x :: r=>(x :: r).flatMap fun i=>(ordersOf md ops n (listed.setIfInBounds i true)).map (i :: ·)
theorem order_mem{md:Region.Mode}{ops:Array Oper}:∀(n t:Nat) (listed:Array Bool),Region.linearise.go md ops n t listed []∈ordersOf md ops n listed:=by
 intro n
 induction n with
 |zero=>intro t listed;simp[Region.linearise.go,ordersOf]
 |succ n ih=>
  intro t listed
  simp only[Region.linearise.go,ordersOf]
  change (match(Region.ready md ops listed)[t % (Region.ready md ops listed).length]? with
   |some i=>Region.linearise.go md ops n (t / (Region.ready md ops listed).length) (listed.setIfInBounds i true) [i]
   |none=>[].reverse)∈_
  cases hr:Region.ready md ops listed with
  |nil=>simp
  |cons x r=>
   have hlt:t % (x :: r).length < (x :: r).length:=Nat.mod_lt _ (by simp)
   rw[List.getElem?_eq_getElem hlt]
   simp only[]
   rw[linearise_go_acc,List.reverse_singleton,List.singleton_append]
   exact List.mem_flatMap.2 ⟨_,List.getElem_mem hlt,List.mem_map.2 ⟨_,ih _ _,rfl⟩⟩
theorem WalkN.region_any{id:Nat}{ops:Array Oper}{L:List (List Nat)}(hm:P.follows .mixedOrders=true)(hL:ordersOf .any ops ops.size (Array.replicate ops.size false)=L)(h:∀l∈L,WalkO P ops l Q a {w with drawn:=w.drawn+1}):WalkN P (.region id ops true) Q a w:=
 WalkN.region_draw fun t=>h _ (by
  rw[<-hL]
  simp only[Region.schedule,hm,Bool.true_or,if_true]
  exact order_mem _ _ _)
theorem calls_of_walkN{f:FuncId}{fn:Func}{c:Code}{args:Array Value}{R:Ending->World->Prop}(hf:P.funcs[f]?= some fn)(hc:fn.body=some c)
  (h:WalkN P c (bodyPost P fn R) {tmps:=args++Array.replicate (fn.ntmps - args.size) undef,defers:=[]} w) (hno:∀w',¬R .outgrown w'):Calls P f args w R:=by
 intro cs
 let b:Frame:={(default:Frame)with fn:=f,kind:= .normal,roundOf:=none}
 have he:Frame.enter P f args .normal=b.at {tmps:=args++Array.replicate (fn.ntmps - args.size) undef,defers:=[]} [.code c]:=by
  simp[Frame.enter,Frame.at,hf,hc,b]
 obtain⟨e,a',w',hq,hr⟩:=h b [] cs rfl rfl
 rw[<-he]at hr
 cases e with
 |normal=>
  obtain⟨hd,v,hv,hR⟩:=hq
  exact⟨.returned v,w',_,hR,Steps.trans hr (.one step_end),rfl,rfl,hd,rfl,fn,hf,hv⟩
 |ret=>
  obtain⟨hd,v,hv,hR⟩:=hq
  obtain⟨todo,hs⟩:=hr
  exact⟨.returned v,w',_,hR,hs,rfl,rfl,hd,rfl,fn,hf,hv⟩
 |panic ch=>
  obtain⟨hd,hR⟩:=hq
  obtain⟨todo,hs⟩:=hr
  exact⟨.panicked ch,w',_,hR,hs,rfl,rfl,hd,fn,hf⟩
 |exit id=>exact hq.elim
 |goto l=>exact hq.elim
 |outgrown=>exact absurd hq (hno _)
end
def recL(fn:FuncId)(tmps:Array Value)(ps:Array Tmp)(assign body:Code)(D:Nat)(st:LoopState)(pe:Option Code):Loop:=
 {state:=st,pending:=pe,fn,tmps,params:=ps,assign,body,defers:=D}
def roundG(l:Nat)(rec:LoopState->Option Code->Loop)(R:Ending->World->Prop):Exit->Act->World->Prop
 | .normal,_,Z=>Z.heap[l]?= some (.loop (rec .busy none))/\R (.returned (.bool true)) (Z.putObj l (.loop (rec .ready none)))
 | .ret,_,Z=>Z.heap[l]?= some (.loop (rec .busy none))/\R (.returned (.bool false)) (Z.putObj l (.loop (rec .done (some .ret))))
 | .exit i,_,Z=>Z.heap[l]?= some (.loop (rec .busy none))/\R (.returned (.bool false)) (Z.putObj l (.loop (rec .done (some (.exit i)))))
 |_,_,_=>False
variable {P:Program}
theorem yield_round{m l:Nat}{fn:FuncId}{tmps:Array Value}{ps:Array Tmp}{assign body:Code}{D:Nat}{args:Array Value}{W:World}{R:Ending->World->Prop}
  (hl:W.heap[l]?= some (.loop (recL fn tmps ps assign body D .ready none))) (hps:args.size=ps.size)
  (h:∀K:Act->World->Prop,(∀a' U,U.heap[l]?= some (.loop (recL fn tmps ps assign body D .ready none))->body.wpIn (Fence.wide.inRound l) m P (roundG l (recL fn tmps ps assign body D) R) a' (U.putObj l (.loop (recL fn tmps ps assign body D .busy none)))->K a' U)->
   assign.wpIn (Fence.wide.inRound l) m P (Exit.then K (fun _ _ _=>False)) {tmps:=(ps.zip args).foldl (fun t (p,v)=>t.setIfInBounds p v) tmps,defers:=[]} W):YieldAt Fence.wide m P l args W R:=by
 refine⟨fn,_,assign,body,run_yield hl hps,roundIn_of_wpIn trivial (h _ fun a' U ul hb=> ?_)⟩
 refine⟨_,run_beginRound ul rfl,?_⟩
 refine wpIn_mono hb ?_
 rintro e a3 Z hp
 cases e with
 |normal=>exact⟨_,_,run_endRound none hp.1,hp.2⟩
 |ret=>exact⟨_,_,run_endRound (some .ret) hp.1,hp.2⟩
 |exit i=>exact⟨_,_,run_endRound (some (.exit i)) hp.1,hp.2⟩
 |goto t=>exact hp.elim
 |panic ch=>exact hp.elim
 |outgrown=>exact hp.elim
theorem range_lawF{F:Fence}{n:Nat}{g:Operand}{ps:Array Tmp}{assign body:Code}{Q:Exit->Act->World->Prop}{a:Act}{w:World}{gf:Nat}{lb:Array Value}(hro:F.round=none)(h1:F.depth.isSome=true->1<=n)(hFg:F.fn gf)(hg:a.eval g= .func (.func gf) #[] lb)(eg:∀args w,(callFunc gf args).run P w= .ok (.enter gf args) w)
  (hcall:∀fn,CallsIn F (n - 1) P gf (#[.func (.yield (w.heap.size+1)) #[] #[]]++lb) ((w.alloc (.deferred (some []))).alloc (.loop (recL fn a.tmps ps assign body w.heap.size .ready none))) fun e W'=>(∃v,e= .returned v)/\
   ((W'.heap[w.heap.size+1]?= some (.loop (recL fn a.tmps ps assign body w.heap.size .ready none))/\Q .normal {a with defers:={target:= .collected w.heap.size,args:=#[]} :: a.defers} (W'.putObj (w.heap.size+1) (.loop (recL fn a.tmps ps assign body w.heap.size .exhausted none))))\/
    ∃c,W'.heap[w.heap.size+1]?= some (.loop (recL fn a.tmps ps assign body w.heap.size .done (some c)))/\c.wpIn F n P Q {a with defers:={target:= .collected w.heap.size,args:=#[]} :: a.defers} (W'.putObj (w.heap.size+1) (.loop (recL fn a.tmps ps assign body w.heap.size .exhausted (some c)))))) :
  (Code.rangeFunc g ps assign body).wpIn F n P Q a w:=by
 refine wpIn_rangeFunc fun fn _=> ?_
 rw[hro]
 have hc:=hcall fn
 obtain⟨V,hV⟩:∃V,(w.alloc (.deferred (some []))).alloc (.loop (recL fn a.tmps ps assign body w.heap.size .ready none))=V:=⟨_,rfl⟩
 rw[hV]at hc
 refine⟨w.heap.size+1,[{target:= .collected w.heap.size,args:=#[]}],V,{target:= .fn (.func gf) lb,args:=#[.func (.yield (w.heap.size+1)) #[] #[]]},V,gf,
  #[.func (.yield (w.heap.size+1)) #[] #[]]++lb,V,?_,?_,?_,?_,?_,?_⟩
 ·rw[<-hV];exact run_enterLoop_outer _ _ _ _ _
 ·simp only[resolve,hg];simp[go_sem]
 ·intro f' hf';simp[Target.leads]at hf';subst hf';exact hFg
 ·simp[invoke,go_sem,eg]
 ·exact h1
 ·refine hc.mono ?_
  rintro e Z ⟨⟨v,rfl⟩,(⟨hl,hq⟩|⟨c,hl,hq⟩)⟩
  ·exact⟨none,_,run_endLoop hl (by simp[recL]),hq⟩
  ·exact⟨some c,_,run_endLoop hl (by simp[recL]),hq⟩
theorem range_lawG{n:Nat}{g:Operand}{ps:Array Tmp}{assign body:Code}{Q:Exit->Act->World->Prop}{a:Act}{w:World}{gf:Nat}{lb:Array Value}(hg:a.eval g= .func (.func gf) #[] lb)(eg:∀args w,(callFunc gf args).run P w= .ok (.enter gf args) w)
  (hcall:∀rec:LoopState->Option Code->Loop,
   (∀(m:Nat) (args:Array Value) (W:World) (R:Ending->World->Prop),W.heap[w.heap.size+1]?= some (.loop (rec .ready none))->args.size=ps.size->
    (∀K:Act->World->Prop,(∀a' U,U.heap[w.heap.size+1]?= some (.loop (rec .ready none))->body.wpIn (Fence.wide.inRound (w.heap.size+1)) m P (roundG (w.heap.size+1) rec R) a' (U.putObj (w.heap.size+1) (.loop (rec .busy none)))->K a' U)->
     assign.wpIn (Fence.wide.inRound (w.heap.size+1)) m P (Exit.then K (fun _ _ _=>False)) {tmps:=(ps.zip args).foldl (fun t (p,v)=>t.setIfInBounds p v) a.tmps,defers:=[]} W)->YieldAt Fence.wide m P (w.heap.size+1) args W R)->
   CallsIn Fence.wide (n - 1) P gf (#[.func (.yield (w.heap.size+1)) #[] #[]]++lb) ((w.alloc (.deferred (some []))).alloc (.loop (rec .ready none))) fun e W'=>(∃v,e= .returned v)/\
    ((W'.heap[w.heap.size+1]?= some (.loop (rec .ready none))/\Q .normal {a with defers:={target:= .collected w.heap.size,args:=#[]} :: a.defers} (W'.putObj (w.heap.size+1) (.loop (rec .exhausted none))))\/
     ∃c,W'.heap[w.heap.size+1]?= some (.loop (rec .done (some c)))/\c.wpIn Fence.wide n P Q {a with defers:={target:= .collected w.heap.size,args:=#[]} :: a.defers} (W'.putObj (w.heap.size+1) (.loop (rec .exhausted (some c)))))) :
  (Code.rangeFunc g ps assign body).wpIn Fence.wide n P Q a w:=
 range_lawF (F:=Fence.wide) rfl (fun h=>(by cases h)) trivial hg eg (fun fn=>hcall (recL fn a.tmps ps assign body w.heap.size) (fun _ _ _ _ hl hps h=>yield_round hl hps h))
theorem KidsAt.mono{ok ok':Nat->Prop}{W:World}{v:Value}{l:List KidS}(h:KidsAt ok W v l)(hx:∀b,ok b->ok' b):KidsAt ok' W v l:=by
 obtain⟨a,cap,rfl,hc⟩:=h
 refine⟨a,cap,rfl,fun j c hj=> ?_⟩
 obtain⟨b,o,ha,hok,hb⟩:=hc j c hj
 exact⟨b,o,ha,hx b hok,hb⟩
theorem KindsAt.mono{ok ok':Nat->Prop}{W:World}{v:Value}{l:List KindS}(h:KindsAt ok W v l)(hx:∀b,ok b->ok' b):KindsAt ok' W v l:=by
 obtain⟨a,cap,rfl,hc⟩:=h
 refine⟨a,cap,rfl,fun j c hj=> ?_⟩
 obtain⟨b,o,kv,ha,hok,hb,c0,c1,c2,hk⟩:=hc j c hj
 exact⟨b,o,kv,ha,hx b hok,hb,c0,c1,c2,hk.mono hx⟩
theorem row_later{W W':World}{base e size n:Nat}{v:Value}{xs:List Value}(h:W.ownsRow base e size v n xs)(k:Below W.heap.size W W'):W'.ownsRow base e size v n xs:=
 row_below h k (fun g e=>(h.lt g e).2)
def nextB(l:LinkS):Bool:=l.kept.any (·== l.came+1)
def LinkS.on(l:LinkS)(n:Nat):LinkS:={l with came:=l.came+n}
structure Comes(l:LinkS)(n:Nat):Prop where
 each:∀k,k < n->nextB (l.on k)=true
 last:nextB (l.on n)=false
theorem on_on(l:LinkS)(a b:Nat):(l.on a).on b=l.on (a+b):=by
 unfold LinkS.on
 congr 1
 dsimp only
 omega
theorem on_zero(l:LinkS):l.on 0=l:=by
 unfold LinkS.on
 cases l
 simp
def RawAt(w:World)(a:Option Addr)(len:Nat):Prop:=∀j,j < len->∃b o z,a=some ⟨b,o,none⟩/\b < w.heap.size/\w.cell? ⟨b,o+j,none⟩=some (.int .i64 z)/\ -9223372036854775808<=z/\z<=9223372036854775807
theorem program_calls(a:Option Addr)(len cap:Nat)(kind arg:Int)(w:World)(hl2:len<=9223372036854775806)(hkind: -9223372036854775808<=kind/\kind<=9223372036854775807)(harg: -9223372036854775808<=arg/\arg<=9223372036854775807)(hraw:RawAt w a len) :
  Calls Tryz.prog 33 #[.slice a len cap,.int .i64 kind,.int .i64 arg] w fun e w'=>∃va vcap ks k x,e= .returned (.agg #[.slice va ks.length vcap,.int .i64 k,.int .i64 x])/\KindsAt (fun b=>w.heap.size<=b) w' (.slice va ks.length vcap) ks/\progB ks k x=true/\Below w.heap.size w w':=by
 have hfin:∀(e:Ending) (w':World),(∃v k x,e= .returned (.agg #[v,.int .i64 k,.int .i64 x])/\MadeProg w w' v k x/\Below w.heap.size w w')->∃va vcap ks k x,e= .returned (.agg #[.slice va ks.length vcap,.int .i64 k,.int .i64 x])/\KindsAt (fun b=>w.heap.size<=b) w' (.slice va ks.length vcap) ks/\progB ks k x=true/\Below w.heap.size w w':=by
  rintro e w' ⟨v,k,x,rfl,⟨l,hl,hp⟩,hb⟩
  have hat:=hl.at
  have hat':=hat
  obtain⟨va,vcap,rfl,-⟩:=hat'
  exact⟨va,vcap,l.map Prod.fst,k,x,rfl,hat,hp,hb⟩
 rcases Nat.lt_or_ge len 2 with h|h
 ·exact(program_small a len cap kind arg w h harg).mono hfin
 ·obtain⟨b,o,z,rfl,hb,-⟩:=hraw 0 (by omega)
  refine(program_big b o len cap kind arg w h hl2 hkind harg hb (fun j hj=> ?_)).mono hfin
  obtain⟨b',o',z',e,_,h1,h2⟩:=hraw j hj
  cases e
  exact⟨z',h1,h2⟩
end Go.Proofs.YtfanaanofjhlkaaGreatDoor
