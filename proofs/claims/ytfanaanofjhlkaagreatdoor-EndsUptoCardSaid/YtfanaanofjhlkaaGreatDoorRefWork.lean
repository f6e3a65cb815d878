import Derived.Test.YtfanaanofjhlkaaGreatDoorBooks
import Derived.Test.YtfanaanofjhlkaaGreatDoorPickN
import Derived.Laws.AppendOwnNone
import Derived.Test.YtfanaanofjhlkaaGreatDoorRefKids
namespace Go.Proofs.YtfanaanofjhlkaaGreatDoor
open Go Go.RowKit
theorem row_form{W:World}{base e size n:Nat}{v:Value}{xs:List Value}(h:W.ownsRow base e size v n xs):∃a cap,v= .slice a n cap:=by
 rcases h.2 with⟨rfl,rfl⟩|⟨g,cap,cur,rfl,_⟩
 ·exact⟨_,_,rfl⟩
 ·exact⟨_,_,rfl⟩
def putAll(W:World)(g o:Nat):List Value->World
 |[]=>W
 |u :: r=>putAll (W.setCell ⟨g,o,none⟩ u) g (o+1) r
def setAll(xs:List Value)(o:Nat):List Value->List Value
 |[]=>xs
 |u :: r=>setAll (xs.set o u) (o+1) r
theorem setAll_length:∀(us xs:List Value) (o:Nat),(setAll xs o us).length=xs.length
 |[],_,_=>rfl
 |u :: r,xs,o=>by rw[setAll,setAll_length r];simp
theorem setAll_out:∀(us xs:List Value) (o k:Nat),(k < o\/o+us.length<=k)->(setAll xs o us)[k]?= xs[k]?
 |[],_,_,_,_=>rfl
 |u :: r,xs,o,k,h=>by
  rw[setAll,setAll_out r _ _ _ (by simp at h;omega),List.getElem?_set_ne (by simp at h;omega)]
theorem setAll_in:∀(us xs:List Value) (o i:Nat),i < us.length->o+us.length<=xs.length->(setAll xs o us)[o+i]?= us[i]?
 |[],_,_,_,h,_=>absurd h (by simp)
 |u :: r,xs,o,0,_,h2=>by
  simp at h2
  rw[setAll,setAll_out r _ _ _ (by omega),Nat.add_zero,List.getElem?_set_self (by omega)];simp
 |u :: r,xs,o,i+1,h1,h2=>by
  simp at h1 h2
  rw[setAll,show o+(i+1)=o+1+i from by omega,setAll_in r _ _ _ (by omega) (by simp;omega)];simp
theorem row_putAll{e sz n g cap:Nat}:∀(us xs:List Value) (o:Nat) (W:World),W.ownsRow 0 e sz (.slice (some ⟨g,0,none⟩) n cap) n xs->o+us.length<=n*sz->(putAll W g o us).ownsRow 0 e sz (.slice (some ⟨g,0,none⟩) n cap) n (setAll xs o us)
 |[],_,_,_,h,_=>h
 |u :: r,xs,o,W,h,hl=>by
  simp at hl
  rw[putAll,setAll]
  refine row_putAll r _ _ _ ?_ (by omega)
  obtain⟨hx,h⟩:=h
  rcases h with⟨h0,_⟩|⟨g',cap',cur,h0,hb,hcur,hnc,hcm,hcs,htk⟩
  ·cases h0
  ·cases h0
   refine⟨by simpa using hx,.inr ⟨g,cap,_,rfl,hb,BoxAt.setAt hcur o u,hnc,hcm,by simpa using hcs,?_⟩⟩
   rw[<-htk]
   simp[List.take_set]
theorem kept_putAll{X:Nat->Prop}{A:World}{g:Nat}(hg:X g\/A.heap.size<=g):∀(us:List Value) (o:Nat) (W:World),Kept X A W->Kept X A (putAll W g o us)
 |[],_,_,h=>h
 |u :: r,_,_,h=>kept_putAll hg r _ _ (h.setCell hg u)
structure MsgS where
 src:Int
 dst:Int
 no:Int
 kind:Int
 t:TaskS
 v:ByteArray×Int
 black:Bool
 idle:Bool
 count:Int
 round:Int
 sent:Int
 came:Int
def valEnc(x:ByteArray×Int):List Value:=[.string x.1,.int .i64 x.2]
def taskEnc(t:TaskS):List Value:=[.string t.id,.int .i64 t.kind,.int .i64 t.arg]
def msgEnc(m:MsgS):List Value:=[.int .i64 m.src,.int .i64 m.dst,.int .i64 m.no,.int .i64 m.kind,.string m.t.id,.int .i64 m.t.kind,.int .i64 m.t.arg,.string m.v.1,.int .i64 m.v.2,.bool m.black,.bool m.idle,.int .i64 m.count,.int .i64 m.round,.int .i64 m.sent,.int .i64 m.came]
theorem infoMessage:(Tryz.prog.info? 124).map (fun i=>(i.zero,i.size,i.bytes))=some (some (.agg #[.int .i64 0,.int .i64 0,.int .i64 0,.int .i64 0,.string ⟨#[]⟩,.int .i64 0,.int .i64 0,.string ⟨#[]⟩,.int .i64 0,.bool false,.bool false,.int .i64 0,.int .i64 0,.int .i64 0,.int .i64 0]),15,128):=by kernel_rfl
theorem hid_of{p:Prop}(h:p):Hid p:=h
def ListAt{α:Type}(sz:Nat)(enc:α->List Value)(W:World)(v:Value)(l:List α):Prop:=
 ∃a cap,v= .slice a l.length cap/\∀j x,l[j]?= some x->∃g o,a=some ⟨g,o,none⟩/\g < W.heap.size/\∀i u,(enc x)[i]?= some u->W.cell? ⟨g,o+j*sz+i,none⟩=some u
theorem ListAt.below{α:Type}{sz n:Nat}{enc:α->List Value}{W W':World}{v:Value}{l:List α}(h:ListAt sz enc W v l)(hb:Below n W W')(hn:W.heap.size<=n):ListAt sz enc W' v l:=by
 obtain⟨a,cap,rfl,hc⟩:=h
 refine⟨a,cap,rfl,fun j x hj=> ?_⟩
 obtain⟨g,o,ha,hg,c0⟩:=hc j x hj
 exact⟨g,o,ha,Nat.lt_of_lt_of_le hg hb.size,fun i u hi=>(hb.cell (p:=⟨g,_,none⟩) (Nat.lt_of_lt_of_le hg hn)).trans (c0 i u hi)⟩
theorem ListAt.nil{α:Type}(sz:Nat)(enc:α->List Value)(W:World):ListAt sz enc W (.slice none 0 0) []:=⟨none,0,rfl,fun j x h=>by simp at h⟩
theorem flat_length{α:Type}{sz:Nat}{enc:α->List Value}(he:∀x,(enc x).length=sz):∀l:List α,(l.flatMap enc).length=l.length*sz
 |[]=>by simp
 |x :: r=>by rw[List.flatMap_cons,List.length_append,he x,flat_length he r,List.length_cons,Nat.succ_mul];omega
theorem flat_get{α:Type}{sz:Nat}{enc:α->List Value}(he:∀x,(enc x).length=sz):∀(l:List α) (j:Nat) (x:α) (i:Nat) (u:Value),l[j]?= some x->(enc x)[i]?= some u->(l.flatMap enc)[j*sz+i]?= some u
 |[],j,x,i,u,h,_=>by simp at h
 |y :: r,0,x,i,u,h,hi=>by
  simp at h
  subst h
  rw[List.flatMap_cons,Nat.zero_mul,Nat.zero_add,List.getElem?_append_left (List.getElem?_eq_some_iff.1 hi).1]
  exact hi
 |y :: r,j+1,x,i,u,h,hi=>by
  rw[List.flatMap_cons,List.getElem?_append_right (by rw[he y,Nat.succ_mul];omega),he y,Nat.succ_mul,show j*sz+sz+i - sz=j*sz+i from by omega]
  exact flat_get he r j x i u (by simpa using h) hi
theorem list_of_row{α:Type}{sz t base n:Nat}{enc:α->List Value}{W:World}{v:Value}{l:List α}(he:∀x,(enc x).length=sz)(h:W.ownsRow base t sz v n (l.flatMap enc))(hn:n=l.length):ListAt sz enc W v l:=by
 subst hn
 obtain⟨a,cap,rfl,hc⟩:=row_slice h
 refine⟨a,cap,rfl,fun j x hj=> ?_⟩
 rcases h.2 with⟨_,h2⟩|⟨g,cap',cur,h0,hg,hgb,_⟩
 ·have:=(List.getElem?_eq_some_iff.1 hj).1
  omega
 ·cases h0
  refine⟨g,0,rfl,(Array.getElem?_eq_some_iff.1 hgb).1,fun i u hi=> ?_⟩
  obtain⟨g',e,_,_,c1⟩:=hc _ _ (flat_get he l j x i u hj hi)
  cases e
  rw[Nat.zero_add]
  exact c1
theorem flat_one{α:Type}{enc:α->List Value}(he:∀x,∀u∈enc x,u.oneCell'=true)(l:List α):∀u∈l.flatMap enc,u.oneCell'=true:=by
 intro u hu
 obtain⟨x,_,hx⟩:=List.mem_flatMap.1 hu
 exact he x u hx
theorem taskEnc_one(x:TaskS):∀u∈taskEnc x,u.oneCell'=true:=by simp[taskEnc,Value.oneCell']
theorem msgEnc_one(x:MsgS):∀u∈msgEnc x,u.oneCell'=true:=by simp[msgEnc,Value.oneCell']
structure WorkerS where
 tasks:List TaskS
 asked:Bool
 sent:Int
 came:Int
 black:Bool
 has:Bool
 token:MsgS
structure LinkS where
 all:List MsgS
 known:Int
 came:Int
 kept:List Int
structure AnsS where
 many:Int
 sent:Int
 came:Int
 idle:Bool
structure RunS where
 workers:Int
 room:Int
 mode:Int
 ks:List KindS
 kind:Int
 arg:Int
 W:List WorkerS
 links:List (List LinkS)
 way:List MsgS
 values:List (ByteArray×Int)
 answers:List AnsS
 around:Bool
 over:Bool
 done:Bool
def RowIn{α:Type}(X:Nat->Prop)(t:TypeId)(sz:Nat)(enc:α->List Value)(W:World)(v:Value)(l:List α):Prop:=
 W.ownsRow 0 t sz v l.length (l.flatMap enc)/\∀g,v.ownBlock=some g->X g
theorem RowIn.kept{α:Type}{X X' Y:Nat->Prop}{t:TypeId}{sz:Nat}{enc:α->List Value}{W W':World}{v:Value}{l:List α}(h:RowIn X t sz enc W v l)(k:Kept Y W W')(hx:∀g,g < W.heap.size->X g->¬Y g/\X' g):RowIn X' t sz enc W' v l:=
 ⟨row_kept h.1 k (fun g e=>(hx g (h.1.lt g e).2 (h.2 g e)).1) (Nat.le_refl _),fun g e=>(hx g (h.1.lt g e).2 (h.2 g e)).2⟩
theorem RowIn.nil{α:Type}(X:Nat->Prop)(t:TypeId)(sz:Nat)(enc:α->List Value)(W:World):RowIn X t sz enc W (.slice none 0 0) []:=⟨World.ownsRow_nil _ _ _ _,fun g e=>by cases e⟩
theorem KidsAt.mono'{ok ok':Nat->Prop}{W:World}{v:Value}{l:List KidS}(h:KidsAt ok W v l)(hx:∀b,ok b->ok' b):KidsAt ok' W v l:=by
 obtain⟨a,cap,rfl,hc⟩:=h
 refine⟨a,cap,rfl,fun j c hj=> ?_⟩
 obtain⟨b,o,ha,hok,hb⟩:=hc j c hj
 exact⟨b,o,ha,hx b hok,hb⟩
theorem KindsAt.mono'{ok ok':Nat->Prop}{W:World}{v:Value}{l:List KindS}(h:KindsAt ok W v l)(hx:∀b,ok b->ok' b):KindsAt ok' W v l:=by
 obtain⟨a,cap,rfl,hc⟩:=h
 refine⟨a,cap,rfl,fun j c hj=> ?_⟩
 obtain⟨b,o,kv,ha,hok,hb,c0,c1,c2,hk⟩:=hc j c hj
 exact⟨b,o,kv,ha,hx b hok,hb,c0,c1,c2,hk.mono' hx⟩
abbrev msgCells(m:MsgS):Array Value:=#[.int .i64 m.src,.int .i64 m.dst,.int .i64 m.no,.int .i64 m.kind,.string m.t.id,.int .i64 m.t.kind,.int .i64 m.t.arg,.string m.v.1,.int .i64 m.v.2,.bool m.black,.bool m.idle,.int .i64 m.count,.int .i64 m.round,.int .i64 m.sent,.int .i64 m.came]
def ext(W:World)(part:Nat->Nat)(n b:Nat):Nat:=if b < W.heap.size then part b else n
theorem ext_old{W:World}{part:Nat->Nat}{n b:Nat}(h:b < W.heap.size):ext W part n b=part b:=if_pos h
theorem ext_new{W:World}{part:Nat->Nat}{n b:Nat}(h:W.heap.size<=b):ext W part n b=n:=if_neg (by omega)
structure Moved(part part':Nat->Nat)(W W':World):Prop where
 kept:Kept (fun b=>part b≠0) W W'
 old:∀b,b < W.heap.size->part' b≠0->part b≠0
theorem Moved.trans{p p' p'':Nat->Nat}{W W' W'':World}(h:Moved p p' W W')(k:Moved p' p'' W' W''):Moved p p'' W W'':=
 ⟨h.kept.andThen k.kept (fun b hb hp=>h.old b hb hp),fun b hb hp=>h.old b hb (k.old b (Nat.lt_of_lt_of_le hb h.kept.size) hp)⟩
theorem Moved.of{part:Nat->Nat}{Y:Nat->Prop}{W W':World}(n:Nat)(k:Kept Y W W')(hY:∀g,g < W.heap.size->Y g->part g≠0):Moved part (ext W part n) W W':=
 ⟨k.mono hY,fun b hb h=>by rwa [ext_old hb]at h⟩
theorem rowIn_ext{α:Type}{t:TypeId}{sz n:Nat}{enc:α->List Value}{part:Nat->Nat}{W W':World}{v:Value}{l:List α}(hr:W'.ownsRow 0 t sz v l.length (l.flatMap enc))(ho:∀g,v.ownBlock=some g->part g=n/\g < W.heap.size\/W.heap.size<=g):RowIn (fun b=>ext W part n b=n) t sz enc W' v l:=by
 refine⟨hr,fun g e=> ?_⟩
 rcases ho g e with⟨h1,h2⟩|h1
 ·exact(ext_old h2).trans h1
 ·exact ext_new h1
theorem cells15{W:World}{b:Nat}{t:TypeId}{m:MsgS}(h:BoxAt W b t (msgCells m)):W.cell? ⟨b,0,none⟩=some (.int .i64 m.src)/\W.cell? ⟨b,1,none⟩=some (.int .i64 m.dst)/\W.cell? ⟨b,2,none⟩=some (.int .i64 m.no)/\W.cell? ⟨b,3,none⟩=some (.int .i64 m.kind)/\W.cell? ⟨b,4,none⟩=some (.string m.t.id)/\W.cell? ⟨b,5,none⟩=some (.int .i64 m.t.kind)/\W.cell? ⟨b,6,none⟩=some (.int .i64 m.t.arg)/\W.cell? ⟨b,7,none⟩=some (.string m.v.1)/\W.cell? ⟨b,8,none⟩=some (.int .i64 m.v.2)/\W.cell? ⟨b,9,none⟩=some (.bool m.black)/\W.cell? ⟨b,10,none⟩=some (.bool m.idle)/\W.cell? ⟨b,11,none⟩=some (.int .i64 m.count)/\W.cell? ⟨b,12,none⟩=some (.int .i64 m.round)/\W.cell? ⟨b,13,none⟩=some (.int .i64 m.sent)/\W.cell? ⟨b,14,none⟩=some (.int .i64 m.came):=
 ⟨h.cell (o:=0) rfl,h.cell (o:=1) rfl,h.cell (o:=2) rfl,h.cell (o:=3) rfl,h.cell (o:=4) rfl,h.cell (o:=5) rfl,h.cell (o:=6) rfl,h.cell (o:=7) rfl,h.cell (o:=8) rfl,h.cell (o:=9) rfl,h.cell (o:=10) rfl,h.cell (o:=11) rfl,h.cell (o:=12) rfl,h.cell (o:=13) rfl,h.cell (o:=14) rfl⟩
def tasksS(s:RunS)(i:Int):List TaskS×Int:=if i < 0\/s.workers<=i then([],7)else(((s.W[i.toNat]?).map WorkerS.tasks).getD [],0)
structure Fits(s:RunS):Prop where
 len:(s.W.length:Int)=s.workers
 two:2<=s.workers
 five:s.workers<=5
 rmin:1<=s.room
 rmax:s.room<=20
 few:∀x∈s.W,(x.tasks.length:Int)<=s.room
 prog:progB s.ks s.kind s.arg=true
 good:∀x∈s.W,∀t∈x.tasks,Good s.ks t/\t.arg<=12
def msg0:MsgS:=⟨0,0,0,0,⟨⟨#[]⟩,0,0⟩,(⟨#[]⟩,0),false,false,0,0,0,0⟩
def worker0:WorkerS:=⟨[],false,0,0,false,false,msg0⟩
def link0:LinkS:=⟨[],0,0,[]⟩
def cfgB(workers room mode:Int):Bool:=decide (2<=workers)&&decide (workers<=5)&&decide (1<=room)&&decide (room<=20)&&(decide (mode=1)||decide (mode=2))
def newS(workers room mode:Int)(ks:List KindS)(kind arg:Int):RunS:=
 ⟨workers,room,mode,ks,kind,arg,{worker0 with tasks:=[⟨⟨#[]⟩,kind,arg⟩],has:=true} :: List.replicate (workers.toNat - 1) worker0,List.replicate workers.toNat (List.replicate workers.toNat link0),[],[],[],false,false,false⟩
theorem wpList_append_any{P:Program}{w:World}{ops:Array Oper}{rest:List Oper}{o:Oper}{a:Act}{Q:Exit->Act->World->Prop}(hgd:o.guard=none)(s x:Operand)(t:TypeId)
  (ho:o.op= .call {callee:= .builtin .append,args:=#[s,x],argTypes:=#[t,t]})
  (base:Nat) (e:TypeId) (i:TypeInfo) (z:Value) (size bytes:Nat) (ht:P.underlying t=some (.slice e)) (hi:P.info? e=some i) (hz:i.zero=some z)
  (hsize:i.size=size) (hby:i.bytes=bytes) (hzs:z.cells.size=size) (hsz:0 < size)
  (v:Value) (n:Nat) (xs:List Value) (hs:a.eval s=v) (hown:w.ownsRow base e size v n xs)
  (ad:Option Addr) (m c:Nat) (news:List Value) (hx:a.eval x= .slice ad m c) (hl:news.length=m*size) (hnews:∀j u,news[j]?= some u->∃b,ad=some b/\w.cell? (b.add j)=some u) (h1:∀u∈news,u.oneCell'=true)
  (h63:n+m<=maxLen) (hbytes:(n+m)*bytes<=140737488355328) (hbase:base<=w.heap.size)
  (h:∀v' w',w'.ownsRow base e size v' (n+m) (xs++news)->w.grownBy w' v.ownBlock->wpList P ops Q rest (a.put o.dst v') w'):wpList P ops Q (o :: rest) a w:=by
 cases ad with
 |some b=>
  exact wpList_append_own w hgd s x t ho base e i z size bytes ht hi hz hsize hby hzs hsz v n xs hs hown b m c news hx hl (fun j u hj=>by obtain⟨b',e',h'⟩:=hnews j u hj;cases e';exact h') h1 h63 hbytes hbase (fun v' w' h2 h3 _=>h v' w' h2 h3)
 |none=>
  have hn0:news=[]:=by
   cases news with
   |nil=>rfl
   |cons u r=>obtain⟨b,e',_⟩:=hnews 0 u rfl;cases e'
  subst hn0
  have hm:m=0:=by
   have h':m*size=0:=by simpa using hl.symm
   rcases Nat.mul_eq_zero.1 h' with h'|h'
   ·exact h'
   ·omega
  subst hm
  refine wpList_plain hgd fun K hK=> ?_
  have hrun:(Builtin.append_ #[t,t] o.type #[v,.slice none 0 c]).run P w= .ok v w:=by
   rcases hown.2 with⟨rfl,rfl⟩|⟨g,cap,cur,rfl,_,_,hnc,_⟩
   ·simp[Builtin.append_,run_underlying ht,sizeOf,typeInfo,hi,Builtin.lenOf,Builtin.firstCells]
   ·simp[Builtin.append_,run_underlying ht,sizeOf,typeInfo,hi,Builtin.lenOf,Builtin.firstCells,hnc,storeCells]
  unfold Oper.wp
  simp[execOp,ho,resolve,invoke,builtin,hs,hx,hrun,Result.andThen]
  exact hK _ _ (h v w (by simpa using hown) (World.grownBy.refl _ _))
def startE(s:RunS):Int:=if s.done then 5 else if s.over then 6 else 0
def workerE(s:RunS)(i:Int):Int:=if startE s=0/\(i < 0\/s.workers<=i)then 7 else startE s
def wayS(s:RunS)(m:MsgS):RunS:=if s.way.length < 60 then{s with way:=s.way++ [m]}else s
def sendS(s:RunS)(m:MsgS):RunS:=
 let ls:=s.links[m.src.toNat]?.getD []
 let l:=ls[m.dst.toNat]?.getD link0
 let m':={m with no:=l.all.length+1}
 let s1:={s with links:=s.links.set m.src.toNat (ls.set m.dst.toNat {l with all:=l.all++ [m']})}
 let x:=s1.W[m.src.toNat]?.getD worker0
 let s2:=if m.kind=2\/m.kind=4 then{s1 with W:=s1.W.set m.src.toNat {x with sent:=x.sent+1}}else s1
 wayS s2 m'
def workS(s:RunS)(i:Int):RunS×Int:=
 if workerE s i≠0 then(s,workerE s i)else
  match s.W[i.toNat]? with
  |none=>(s,8)
  |some x=>
   match x.tasks.getLast? with
   |none=>(s,8)
   |some t=>
    if s.room < (x.tasks.length:Int) - 1+((children s.ks t).length:Int)then({s with over:=true},6)
    else
     let s1:={s with W:=s.W.set i.toNat {x with tasks:=x.tasks.dropLast++children s.ks t}}
     if i=0 then({s1 with values:=putS s.values (t.id,valueOf s.ks t)},0)
     else(sendS s1 {msg0 with src:=i,dst:=0,kind:=4,v:=(t.id,valueOf s.ks t)},0)
end Go.Proofs.YtfanaanofjhlkaaGreatDoor
