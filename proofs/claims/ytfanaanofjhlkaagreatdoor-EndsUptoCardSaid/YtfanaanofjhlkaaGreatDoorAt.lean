import Derived.Test.YtfanaanofjhlkaaGreatDoorPickN
import Derived.Sort.Walk0
import Derived.Test.YtfanaanofjhlkaaGreatDoorTasks
import Derived.Conc.LoneCalls
import Derived.RangeFuncNested
import Derived.Orders
namespace Go.Proofs.YtfanaanofjhlkaaGreatDoor
open Go Go.RowKit
def putS:List (ByteArray×Int)->ByteArray×Int->List (ByteArray×Int)
 |[],x=>[x]
 |y :: r,x=>if Op.bytesLess x.1.toList y.1.toList=true then x :: y :: r else y :: putS r x
theorem putS_length:∀(l:List (ByteArray×Int)) (x:ByteArray×Int),(putS l x).length=l.length+1
 |[],x=>rfl
 |y :: r,x=>by
  unfold putS
  split
  ·rfl
  ·simp[putS_length r x]
def WalkN(P:Program)(c:Code)(Q:Exit->Act->World->Prop)(a:Act)(w:World):Prop:=
 ∀(b:Frame) (k:List Item) (cs:List Frame),b.kind= .normal->b.roundOf=none->∃e a' w',Q e a' w'/\Arrives P (lone (b.at a (.code c :: k)) cs w) b k cs e a' w'
def WalkO(P:Program)(ops:Array Oper)(l:List Nat)(Q:Exit->Act->World->Prop)(a:Act)(w:World):Prop:=
 ∀(b:Frame) (k:List Item) (cs:List Frame),b.kind= .normal->b.roundOf=none->∃e a' w',Q e a' w'/\Arrives P (lone (b.at a (.inRegion ops l :: k)) cs w) b k cs e a' w'
section
variable {P:Program} {Q:Exit->Act->World->Prop} {a:Act} {w:World}
theorem WalkN.of_wp{c:Code}(h:c.wp P Q a w):WalkN P c Q a w:=fun b k cs _ _=>h b k cs
theorem WalkN.of_wpIn{n:Nat}{c:Code}(h:c.wpIn Fence.wide n P Q a w):WalkN P c Q a w:=fun b k cs _ hb=>by
 obtain⟨e,a',w',h1,h2⟩:=h b k cs hb trivial (room_wide _)
 rw[Frame.atR_of_none hb]at h2
 exact⟨e,a',w',h1,(arrivesIn_iff (fun _ _=>stepsIn_wide) hb).1 h2⟩
theorem WalkN.mono{c:Code}{Q':Exit->Act->World->Prop}(h:WalkN P c Q a w)(hq:∀e a w,Q e a w->Q' e a w):WalkN P c Q' a w:=
 fun b k cs hk hb=>let⟨e,a',w',q,r⟩:=h b k cs hk hb;⟨e,a',w',hq _ _ _ q,r⟩
theorem WalkN.seq{x y:Code}(h:WalkN P x (Exit.then (WalkN P y Q) Q) a w):WalkN P (.seq x y) Q a w:=by
 intro b k cs hk hb
 obtain⟨e,a1,w1,hq,hr⟩:=h b (.code y :: k) cs hk hb
 have go:∀e',e=e'->e'≠ .normal->Q e' a1 w1->∃e a' w',Q e a' w'/\Arrives P (lone (b.at a (.code (.seq x y) :: k)) cs w) b k cs e a' w':=fun e' he hn hq'=>by
  subst he
  exact⟨_,a1,w1,hq',.of_steps (.one step_seq) (.pass (x:= .code y) rfl (fun _ _=> .inl hn) hr)⟩
 cases e with
 |normal=>
  obtain⟨e2,a2,w2,hq2,hr2⟩:=hq b k cs hk hb
  exact⟨e2,a2,w2,hq2,.of_steps (.head step_seq hr) hr2⟩
 |exit id=>exact go _ rfl (by simp) hq
 |goto l=>exact go _ rfl (by simp) hq
 |ret=>exact go _ rfl (by simp) hq
 |panic ch=>exact go _ rfl (by simp) hq
 |outgrown=>exact go _ rfl (by simp) hq
theorem WalkN.step{x y:Code}(h:∀K:Act->World->Prop,(∀a w,WalkN P y Q a w->K a w)->x.wp P (Exit.then K (fun _ _ _=>False)) a w):WalkN P (.seq x y) Q a w:=
 WalkN.seq ((WalkN.of_wp (h _ fun _ _ h=>h)).mono fun e a w hq=>by cases e<;>first|exact hq|exact hq.elim)
theorem WalkN.cond{c:Operand}{x y:Code}{t:Bool}(hc:a.eval c= .bool t)(h:WalkN P (if t then x else y) Q a w):WalkN P (.cond c x y) Q a w:=
 fun b k cs hk hb=>let⟨e,a',w',q,r⟩:=h b k cs hk hb;⟨e,a',w',q,.of_steps (.one (step_cond hc)) r⟩
theorem WalkN.block{id:Nat}{c:Code}(h:WalkN P c (Exit.inBlock id Q) a w):WalkN P (.block id c) Q a w:=by
 intro b k cs hk hb
 obtain⟨e,a1,w1,hq,hr⟩:=h b (.inBlock id :: k) cs hk hb
 cases e with
 |normal=>exact⟨.normal,a1,w1,hq,.head step_block (Steps.trans hr (.one step_inBlock))⟩
 |exit i=>
  by_cases hi:i=id
  ·subst hi
   exact⟨.normal,a1,w1,by simpa[Exit.inBlock]using hq,.head step_block (hr k (by simp[exitTo]))⟩
  ·refine⟨.exit i,a1,w1,by simpa[Exit.inBlock,hi]using hq,fun k' hk'=> .head step_block (hr k' ?_)⟩
   have:(id==i)=false:=by rw[beq_eq_false_iff_ne];exact fun h=>hi h.symm
   simp[exitTo,this,hk']
 |goto l=>exact⟨_,a1,w1,hq,fun k' hk'=> .head step_block (hr k' (by simp[gotoIn,hk']))⟩
 |ret=>exact⟨_,a1,w1,hq,.of_steps (.one step_block) hr⟩
 |panic ch=>exact⟨_,a1,w1,hq,.of_steps (.one step_block) hr⟩
 |outgrown=>exact⟨_,a1,w1,hq,.of_steps (b:=b) (k:=k) (cs:=cs) (e:= .outgrown) (.one step_block) hr⟩
theorem WalkN.loop{c:Code}(I:Nat->Act->World->Prop)(m:Nat)(h0:I m a w)(round:∀m a w,I m a w->WalkN P c (Exit.then (fun a' w'=>∃m',m' < m/\I m' a' w') Q) a w):WalkN P (.loop c) Q a w:=by
 intro b k cs hk hb
 have key:∀m a w,I m a w->∃e a' w',Q e a' w'/\Arrives P (lone (b.at a (.code c :: .inLoop c :: k)) cs w) b k cs e a' w':=by
  intro m
  induction m using Nat.strongRecOn with
  |_ m ih=>
   intro a w hI
   obtain⟨e,a1,w1,hq,hr⟩:=round m a w hI b (.inLoop c :: k) cs hk hb
   have go:∀e',e=e'->e'≠ .normal->Q e' a1 w1->∃e a' w',Q e a' w'/\Arrives P (lone (b.at a (.code c :: .inLoop c :: k)) cs w) b k cs e a' w':=fun e' he hn hq'=>by
    subst he
    exact⟨_,a1,w1,hq',.pass (x:= .inLoop c) rfl (fun _ _=> .inl hn) hr⟩
   cases e with
   |normal=>
    obtain⟨m',hlt,hI'⟩:=hq
    obtain⟨e2,a2,w2,hq2,hr2⟩:=ih m' hlt a1 w1 hI'
    exact⟨e2,a2,w2,hq2,.of_steps (Steps.trans hr (.one step_inLoop)) hr2⟩
   |exit id=>exact go _ rfl (by simp) hq
   |goto l=>exact go _ rfl (by simp) hq
   |ret=>exact go _ rfl (by simp) hq
   |panic ch=>exact go _ rfl (by simp) hq
   |outgrown=>exact go _ rfl (by simp) hq
 obtain⟨e,a',w',hq,hr⟩:=key m a w h0
 exact⟨e,a',w',hq,.of_steps (.one step_loop) hr⟩
theorem WalkN.region{id:Nat}{ops:Array Oper}(h:WalkO P ops (List.range ops.size) Q a w):WalkN P (.region id ops false) Q a w:=
 fun b k cs hk hb=>let⟨e,a',w',q,r⟩:=h b k cs hk hb;⟨e,a',w',q,.of_steps (.one step_region) r⟩
theorem WalkN.region_draw{id:Nat}{ops:Array Oper}(h:∀t,WalkO P ops (Region.schedule (P.follows .mixedOrders) ops t) Q a {w with drawn:=w.drawn+1}):WalkN P (.region id ops true) Q a w:=
 fun b k cs hk hb=>let⟨e,a',w',q,r⟩:=h _ b k cs hk hb;⟨e,a',w',q,.of_steps (.one step_region_draw) r⟩
variable {ops:Array Oper} {i:Nat} {rest:List Nat} {o:Oper}
theorem WalkO.nil(h:Q .normal a w):WalkO P ops [] Q a w:=fun _ _ _ _ _=>⟨.normal,a,w,h,.one step_region_end⟩
theorem finish_at_some(ho:ops[i]?= some o)(b:Frame)(k:List Item)(v:Value):(b.at a (.inRegion ops (i :: rest) :: k)).finish v=b.at (a.put o.dst v) (.inRegion ops rest :: k):=by
 rw[Frame.finish_at,ho];rfl
theorem WalkO.value{v:Value}{w':World}(ho:ops[i]?= some o)(hw:Region.wanted o (yielded ops a.tmps)=true)(hr:(execOp a.eval o).run P w= .ok (.value v) w')(h:WalkO P ops rest Q (a.put o.dst v) w'):WalkO P ops (i :: rest) Q a w:=by
 intro b k cs hk hb
 obtain⟨e,a2,w2,hq,hr2⟩:=h b k cs hk hb
 refine⟨e,a2,w2,hq,.of_steps (.one (step_lone_go ?_)) hr2⟩
 rw[stepG_op ho hw,<-finish_at_some ho]
 simp[stepG.apply,hr]
theorem WalkO.send{c cap s r:Nat}{buf:Array Value}{tm:Bool}{v z:Value}{w':World}(ho:ops[i]?= some o)(hw:Region.wanted o (yielded ops a.tmps)=true)(hr:(execOp a.eval o).run P w= .ok (.comm #[Conc.scase c v z] true .send) w')
  (hc:w'.heap[c]?= some (.chan cap buf false s r tm)) (hroom:buf.size < cap) (h:WalkO P ops rest Q (a.put o.dst undef) (w'.setChan c cap (buf.push v) false (s+1) r tm)):WalkO P ops (i :: rest) Q a w:=by
 intro b k cs hk hb
 obtain⟨e,a2,w2,hq,hr2⟩:=h b k cs hk hb
 refine⟨e,a2,w2,hq,.of_steps (.one ?_) hr2⟩
 have:=Conc.step_lone_send_room (fr:=b.at a (.inRegion ops (i :: rest) :: k)) (cs:=cs) (Conc.stepG_comm ho hw (by rw[hk];simp) hr) hc hroom
 rw[finish_at_some ho]at this
 exact this
theorem WalkO.recv{ok closed tm:Bool}{c cap s r:Nat}{buf:Array Value}{z:Value}{w':World}(ho:ops[i]?= some o)(hw:Region.wanted o (yielded ops a.tmps)=true)(hr:(execOp a.eval o).run P w= .ok (.comm #[Conc.rcase c z] true (.recv ok)) w')
  (hc:w'.heap[c]?= some (.chan cap buf closed s r tm)) (hsome:0 < buf.size) (h:WalkO P ops rest Q (a.put o.dst (Conc.got ok (buf.getD 0 undef) true)) (w'.setChan c cap (buf.extract 1 buf.size) closed s (r+1) tm)):WalkO P ops (i :: rest) Q a w:=by
 intro b k cs hk hb
 obtain⟨e,a2,w2,hq,hr2⟩:=h b k cs hk hb
 refine⟨e,a2,w2,hq,.of_steps (.one ?_) hr2⟩
 have:=Conc.step_lone_recv_buf (fr:=b.at a (.inRegion ops (i :: rest) :: k)) (cs:=cs) ok (Conc.stepG_comm ho hw (by rw[hk];simp) hr) hc hsome
 rw[finish_at_some ho]at this
 exact this
theorem WalkO.shut{ok tm:Bool}{c cap s r:Nat}{z:Value}{w':World}(ho:ops[i]?= some o)(hw:Region.wanted o (yielded ops a.tmps)=true)(hr:(execOp a.eval o).run P w= .ok (.comm #[Conc.rcase c z] true (.recv ok)) w')
  (hc:w'.heap[c]?= some (.chan cap #[] true s r tm)) (h:WalkO P ops rest Q (a.put o.dst (Conc.got ok z false)) w'):WalkO P ops (i :: rest) Q a w:=by
 intro b k cs hk hb
 obtain⟨e,a2,w2,hq,hr2⟩:=h b k cs hk hb
 refine⟨e,a2,w2,hq,.of_steps (.one ?_) hr2⟩
 have:=Conc.step_lone_recv_shut (fr:=b.at a (.inRegion ops (i :: rest) :: k)) (cs:=cs) ok (Conc.stepG_comm ho hw (by rw[hk];simp) hr) hc
 rw[finish_at_some ho]at this
 exact this
def uponV(a:Act)(o:Oper)(K:Act->World->Prop):Result Next->Prop
 | .ok (.value v) w'=>K (a.put o.dst v) w'
 |_=>False
theorem uponV_value(a:Act)(o:Oper)(K:Act->World->Prop)(v:Value)(w':World):uponV a o K (.ok (.value v) w')=K (a.put o.dst v) w':=rfl
theorem WalkO.oper(ho:ops[i]?= some o)(hw:Region.wanted o (yielded ops a.tmps)=true)(h:∀K:Act->World->Prop,(∀a' w',WalkO P ops rest Q a' w'->K a' w')->uponV a o K ((execOp a.eval o).run P w)):WalkO P ops (i :: rest) Q a w:=by
 have h1:=h _ (fun _ _ h=>h)
 unfold uponV at h1
 split at h1
 ·rename_i v w' hr
  exact WalkO.value ho hw hr h1
 ·exact h1.elim
def ordersOf(md:Region.Mode)(ops:Array Oper):Nat->Array Bool->List (List Nat)
 |0,_=>[[]]
 |n+1,listed=>match Region.ready md ops listed with
  |[]=>[[]]
  |x :: r=>(x :: r).flatMap fun i=>(ordersOf md ops n (listed.setIfInBounds i true)).map (i :: ·)
theorem order_mem{md:Region.Mode}{ops:Array Oper}:∀(n t:Nat) (listed:Array Bool),Region.linearise.go md ops n t listed []∈ordersOf md ops n listed:=by
 intro n
 induction n with
 |zero=>intro t listed;simp[Region.linearise.go,ordersOf]
 |succ n ih=>
  intro t listed
  simp only[Region.linearise.go,ordersOf]
  change (match(Region.ready md ops listed)[t % (Region.ready md ops listed).length]? with
   |some i=>Region.linearise.go md ops n (t / (Region.ready md ops listed).length) (listed.setIfInBounds i true) [i]
   |none=>[].reverse)∈_
  cases hr:Region.ready md ops listed with
  |nil=>simp
  |cons x r=>
   have hlt:t % (x :: r).length < (x :: r).length:=Nat.mod_lt _ (by simp)
   rw[List.getElem?_eq_getElem hlt]
   simp only[]
   rw[linearise_go_acc,List.reverse_singleton,List.singleton_append]
   exact List.mem_flatMap.2 ⟨_,List.getElem_mem hlt,List.mem_map.2 ⟨_,ih _ _,rfl⟩⟩
theorem WalkN.region_any{id:Nat}{ops:Array Oper}{L:List (List Nat)}(hm:P.follows .mixedOrders=true)(hL:ordersOf .any ops ops.size (Array.replicate ops.size false)=L)(h:∀l∈L,WalkO P ops l Q a {w with drawn:=w.drawn+1}):WalkN P (.region id ops true) Q a w:=
 WalkN.region_draw fun t=>h _ (by
  rw[<-hL]
  simp only[Region.schedule,hm,Bool.true_or,if_true]
  exact order_mem _ _ _)
theorem calls_of_walkN{f:FuncId}{fn:Func}{c:Code}{args:Array Value}{R:Ending->World->Prop}(hf:P.funcs[f]?= some fn)(hc:fn.body=some c)
  (h:WalkN P c (bodyPost P fn R) {tmps:=args++Array.replicate (fn.ntmps - args.size) undef,defers:=[]} w) (hno:∀w',¬R .outgrown w'):Calls P f args w R:=by
 intro cs
 let b:Frame:={(default:Frame)with fn:=f,kind:= .normal,roundOf:=none}
 have he:Frame.enter P f args .normal=b.at {tmps:=args++Array.replicate (fn.ntmps - args.size) undef,defers:=[]} [.code c]:=by
  simp[Frame.enter,Frame.at,hf,hc,b]
 obtain⟨e,a',w',hq,hr⟩:=h b [] cs rfl rfl
 rw[<-he]at hr
 cases e with
 |normal=>
  obtain⟨hd,v,hv,hR⟩:=hq
  exact⟨.returned v,w',_,hR,Steps.trans hr (.one step_end),rfl,rfl,hd,rfl,fn,hf,hv⟩
 |ret=>
  obtain⟨hd,v,hv,hR⟩:=hq
  obtain⟨todo,hs⟩:=hr
  exact⟨.returned v,w',_,hR,hs,rfl,rfl,hd,rfl,fn,hf,hv⟩
 |panic ch=>
  obtain⟨hd,hR⟩:=hq
  obtain⟨todo,hs⟩:=hr
  exact⟨.panicked ch,w',_,hR,hs,rfl,rfl,hd,fn,hf⟩
 |exit id=>exact hq.elim
 |goto l=>exact hq.elim
 |outgrown=>exact absurd hq (hno _)
end
def locate(ks:List KindS):Int->Int->List UInt8->Option (Int×Int)
 |k,x,[]=>some (k,x)
 |k,x,c :: r=>match(kindAt ks k).kids[c.toNat - 48]? with
  |some d=>if 48<=c.toNat/\d.less<=x then locate ks d.kind (x - d.less) r else none
  |none=>none
theorem digit_toNat{i:Nat}(h:i < 100):(digit i).toNat=48+i:=by
 unfold digit;simp only[UInt8.toNat_ofNat'];omega
theorem childrenFrom_locate{id:ByteArray}{x:Int}{c:TaskS}:∀{l:List KidS} {i:Nat},c∈childrenFrom id x i l->∃m d,l[m]?= some d/\c=⟨kidId id (i+m),d.kind,x - d.less⟩/\d.less<=x
 |[],_,h=>by simp[childrenFrom]at h
 |d :: r,i,h=>by
  unfold childrenFrom at h
  split at h
  ·rename_i hd
   rcases List.mem_cons.1 h with rfl|h
   ·exact⟨0,d,rfl,rfl,hd⟩
   ·obtain⟨m,e,he,hc,hx⟩:=childrenFrom_locate h;exact⟨m+1,e,he,by rw[hc];congr 2;omega,hx⟩
  ·obtain⟨m,e,he,hc,hx⟩:=childrenFrom_locate h;exact⟨m+1,e,he,by rw[hc];congr 2;omega,hx⟩
theorem tree_locate{ks:List KindS}{kind arg:Int}(hp:progB ks kind arg=true):∀(f:Nat) (t u:TaskS),u∈tree ks f t->∃r,idl u=idl t++r/\locate ks t.kind t.arg r=some (u.kind,u.arg)
 |0,t,u,hu=>by simp[tree]at hu;subst hu;exact⟨[],by simp,rfl⟩
 |f+1,t,u,hu=>by
  rcases List.mem_cons.1 hu with rfl|hu
  ·exact⟨[],by simp,rfl⟩
  ·obtain⟨c,hc,hu⟩:=List.mem_flatMap.1 hu
   obtain⟨r,hr,hl⟩:=tree_locate hp f c u hu
   obtain⟨m,d,hd,rfl,hx⟩:=childrenFrom_locate hc
   have hm:m < 100:=by have:=(List.getElem?_eq_some_iff.1 hd).1;have:=kids_le ks kind arg hp t.kind;omega
   refine⟨digit m :: r,?_,?_⟩
   ·rw[hr,Nat.zero_add,idl_kid];simp[idl]
   ·unfold locate
    rw[digit_toNat hm,show 48+m - 48=m from by omega,hd]
    simp only
    rw[if_pos ⟨by omega,hx⟩]
    exact hl
set_option maxHeartbeats 2000000 in
theorem at_calls(ok:Nat->Prop)(a:Option Addr)(cap:Nat)(kind arg:Int)(ks:List KindS)(id:ByteArray)(uk ux:Int)(w:World)(hk:KindsAt ok w (.slice a ks.length cap) ks)(hprog:progB ks kind arg=true)
  (hid:id.size<=12) (hl:locate ks kind arg id.data.toList=some (uk,ux)) :
  Calls Tryz.prog 37 #[.agg #[.slice a ks.length cap,.int .i64 kind,.int .i64 arg],.string id] w fun e w'=>e= .returned (.tuple #[.agg #[.string id,.int .i64 uk,.int .i64 ux],.bool true])/\Below w.heap.size w w':=by
 have hlen5:ks.length<=5:=by simp[progB,rangeB]at hprog;omega
 have hr:0<=kind/\kind < ks.length/\0<=arg/\arg<=12:=by simp[progB,rangeB,numB]at hprog;omega
 obtain⟨r0,r1,r2,r3⟩:=hr
 obtain⟨a',cap',hs,hc⟩:=hk
 simp only[Value.slice.injEq]at hs
 obtain⟨rfl,-,rfl⟩:=hs
 go_enter Tryz.func37,Tryz.ntmps37
 go_wp2_with fail
 go_loopw [7] (fun i wr=>∃(m:Nat) (k x:Int),m<=id.size/\i= .int .i64 m/\0<=k/\k < ks.length/\0<=x/\x<=12/\locate ks k x (id.data.toList.drop m)=some (uk,ux)/\Below w.heap.size w wr/\BoxAt wr w.heap.size 41 #[.slice a ks.length cap,.int .i64 kind,.int .i64 arg]/\BoxAt wr (w.heap.size+1) 62 #[.string ⟨#[]⟩,.int .i64 0,.int .i64 0]/\BoxAt wr (w.heap.size+1+1) 62 #[.string id,.int .i64 k,.int .i64 x]) (fun i _=>id.size - (intOf i).toNat)
 case atStart=>
  refine⟨0,kind,arg,Nat.zero_le _,rfl,r0,r1,r2,r3,hl,(((Below.refl _ _).alloc (Nat.le_refl _) _).alloc (by simp) _).alloc (by simp;omega) _,((BoxAt.new w _ _).alloc _).alloc _,?_,?_⟩
  ·have:=(BoxAt.new (w.alloc (Obj.cells #[Value.slice a ks.length cap,Value.int IntKind.i64 kind,Value.int IntKind.i64 arg] 41)) 62 #[.string ⟨#[]⟩,.int .i64 0,.int .i64 0]).alloc (Obj.cells #[.string id,.int .i64 kind,.int .i64 arg] 62)
   simpa only[World.size_alloc]using this
  ·have:=BoxAt.new ((w.alloc (Obj.cells #[Value.slice a ks.length cap,Value.int IntKind.i64 kind,Value.int IntKind.i64 arg] 41)).alloc (Obj.cells #[.string ⟨#[]⟩,.int .i64 0,.int .i64 0] 62)) 62 #[.string id,.int .i64 kind,.int .i64 arg]
   simpa only[World.size_alloc]using this
 case round=>
  obtain⟨m,k,x,hm,rfl,h0,h1,h2,h3,hloc,hb,hbp,hbr,hbt⟩:=hrel
  have HBP:Hid (BoxAt wr w.heap.size 41 #[.slice a ks.length cap,.int .i64 kind,.int .i64 arg]):=hbp
  have HBR:Hid (BoxAt wr (w.heap.size+1) 62 #[.string ⟨#[]⟩,.int .i64 0,.int .i64 0]):=hbr
  have HBT:Hid (BoxAt wr (w.heap.size+1+1) 62 #[.string id,.int .i64 k,.int .i64 x]):=hbt
  have p0:=hbp.cell (o:=0) rfl
  have q0:=hbr.cell (o:=0) rfl
  have q1:=hbr.cell (o:=1) rfl
  have q2:=hbr.cell (o:=2) rfl
  have z0:=hbr.frozen 0
  have z1:=hbr.frozen 1
  have z2:=hbr.frozen 2
  have t0:=hbt.cell (o:=0) rfl
  have t1:=hbt.cell (o:=1) rfl
  have t2:=hbt.cell (o:=2) rfl
  have y1:=hbt.frozen 1
  have y2:=hbt.frozen 2
  clear hbp hbr hbt
  obtain⟨j,c,rfl,hcc,hkc,hkl,hkids,-,-⟩:=kind_facts hprog h0 h1
  by_cases hlt:m < id.size
  ·obtain⟨b,o,v,rfl,hok,hbw,c0,c1,c2,a',cap',rfl,h'⟩:=hc j c hcc
   have hdr:id.data.toList.drop m=id[m] :: id.data.toList.drop (m+1):=by
    rw[List.drop_eq_getElem_cons (by simpa using hlt)];rfl
   rw[hdr]at hloc
   unfold locate at hloc
   rw[hkc]at hloc
   cases hd:c.kids[id[m].toNat - 48]? with
   |none=>rw[hd]at hloc;cases hloc
   |some d=>
    rw[hd]at hloc
    simp only at hloc
    split at hloc
    case isFalse=>cases hloc
    rename_i hcond
    obtain⟨h48,hless⟩:=hcond
    obtain⟨b',o',rfl,hok',hbw',d0,d1⟩:=h' _ d hd
    have hq:=(List.getElem?_eq_some_iff.1 hd).1
    obtain⟨hl1,hl9,hk0,hk1⟩:=hkids d (List.mem_of_getElem? hd)
    have f2:=(hb.cell (p:=⟨b,o+j*3+2,none⟩) hbw).trans c2
    have f0:=(hb.cell (p:=⟨b',o'+(id[m].toNat - 48)*2,none⟩) hbw').trans d0
    have f1:=(hb.cell (p:=⟨b',o'+(id[m].toNat - 48)*2+1,none⟩) hbw').trans d1
    have HLOC:Hid (locate ks d.kind (x - d.less) (id.data.toList.drop (m+1))=some (uk,ux)):=hloc
    clear hloc hd hdr d0 d1 c0 c1 c2 hc h'
    go_wp2_with fail
    obtain⟨q,hqe⟩:∃q:Nat,id[m].toNat - 48=q:=⟨_,rfl⟩
    rw[show((id[m].toNat:Int) - 48)=(q:Int)from by omega]
    rw[hqe]at f0 f1 hq
    clear hqe
    have e1:decide ((q:Int) < 0)=false:=by simp
    have e2:decide ((c.kids.length:Int)<=q)=false:=by simp;omega
    have e3:decide (x < d.less)=false:=by simpa using hless
    go_quiet (fail)
    go_wp2_with fail
    have hbw0:=hb.size
    have f1':∀v,((wr.drewN nq).setCell ⟨w.heap.size+1+1,1,none⟩ v).cell? ⟨b',o'+q*2+1,none⟩=some (.int .i64 d.less):=fun v=>cell_far (w:=wr.drewN nq) f1 _ v (by simp;omega)
    go_region
    go_wp2_with fail
    go_roundw
    case rel=>
     refine⟨m+1,d.kind,x - d.less,by omega,by go_num,hk0,hk1,by omega,by omega,HLOC.out,?_,?_,?_,?_⟩
     ·exact(((below_drewN hb _).setCell (p:=⟨w.heap.size+1+1,1,none⟩) (by simp;omega) _).setCell (p:=⟨w.heap.size+1+1,2,none⟩) (by simp;omega) _).drew
     ·exact((HBP.out.drewN nq).far _ _ (by simp;omega)).far _ _ (by simp;omega)
     ·exact((HBR.out.drewN nq).far _ _ (by simp)).far _ _ (by simp)
     ·exact((HBT.out.drewN nq).setAt 1 _).setAt 2 _
    case measure=>simp[intOf];omega
  ·obtain rfl:m=id.size:=by omega
   rw[List.drop_eq_nil_of_le (by simp)]at hloc
   simp only[locate,Option.some.injEq,Prod.mk.injEq]at hloc
   obtain⟨rfl,rfl⟩:=hloc
   go_wp2_with fail
   have hT:BoxAt (((wr.setCell ⟨w.heap.size+1,0,none⟩ (.string id)).setCell ⟨w.heap.size+1,1,none⟩ (.int .i64 j)).setCell ⟨w.heap.size+1,2,none⟩ (.int .i64 x)) (w.heap.size+1) 62 #[.string id,.int .i64 j,.int .i64 x]:=
    ((HBR.out.setAt 0 _).setAt 1 _).setAt 2 _
   have w0:=hT.cell (o:=0) rfl
   have w1:=hT.cell (o:=1) rfl
   have w2:=hT.cell (o:=2) rfl
   refine bodyPost_ret (v:= .tuple #[.agg #[.string id,.int .i64 j,.int .i64 x],.bool true]) (by simp[results,Tryz.results37,go_sem,w0,w1,w2]) rfl ⟨rfl,?_⟩
   exact((hb.setCell (p:=⟨w.heap.size+1,0,none⟩) (by simp) _).setCell (p:=⟨w.heap.size+1,1,none⟩) (by simp) _).setCell (p:=⟨w.heap.size+1,2,none⟩) (by simp) _
end Go.Proofs.YtfanaanofjhlkaaGreatDoor
