import Derived.Test.YtfanaanofjhlkaaGreatDoorWaves4
import Derived.Test.YtfanaanofjhlkaaGreatDoorCalm
import Derived.Test.YtfanaanofjhlkaaGreatDoorLaps
namespace Go.Proofs.YtfanaanofjhlkaaGreatDoor
open Go Go.RowKit
def Rest(s:RunS):Prop:=(∀y∈s.W,y.tasks=[])/\total works s=0
structure Sure(s:RunS):Prop where
 ring:RingOK s
 waves:WavesOK s
 even:Even 0 s
 rest:s.done=true->Rest s
theorem WavesOK.new(workers room mode kind arg:Int)(ks:List KindS):WavesOK (newS workers room mode ks kind arg):=by
 have hA:(newS workers room mode ks kind arg).answers=[]:=rfl
 refine⟨fun _=>⟨total_new _ _ _ _ _ _ _,total_new _ _ _ _ _ _ _⟩,fun L b e=> ?_,fun k=>by rw[total_new];omega,fun L b e=> ?_,fun L a b e=> ?_,fun L a b e=> ?_,total_new _ _ _ _ _ _ _⟩
 all_goals
  rw[hA]at e
  simp at e
theorem Sure.new{workers room mode kind arg:Int}{ks:List KindS}(hc:cfgB workers room mode=true)(hp:progB ks kind arg=true):Sure (newS workers room mode ks kind arg):=
 ⟨RingOK.new hc hp,WavesOK.new _ _ _ _ _ _,Even.new _ _ _ _ _ _,fun h=>by cases h⟩
theorem startE_done{s:RunS}(h:s.done=true):startE s≠0:=by
 unfold startE
 rw[if_pos h]
 decide
theorem workerE_done{s:RunS}(h:s.done=true)(i:Int):workerE s i≠0:=by
 unfold workerE
 have:=startE_done h
 split
 ·rename_i h'
  exact absurd h'.1 this
 ·exact this
theorem messageE_done{s:RunS}(h:s.done=true)(i:Int):messageE s i≠0:=by
 unfold messageE
 have:=startE_done h
 split
 ·rename_i h'
  exact absurd h'.1 this
 ·exact this
section
variable {N:Nat} {s:RunS}
theorem Sure.of(h:Sure s){s':RunS}(hr:RingOK s')(hw:WavesOK s')(he:Even 0 s')(hd:s'.done=true->s.done=false->Rest s')(hs:s.done=true->s'=s):Sure s':=by
 refine⟨hr,hw,he,fun e=> ?_⟩
 cases hb:s.done with
 |true=>rw[hs hb];exact h.rest hb
 |false=>exact hd e hb
theorem Sure.kept(h:Sure s){s':RunS}(hr:RingOK s')(hw:WavesOK s')(he:Even 0 s')(hd:s'.done=s.done)(hs:s.done=true->s'=s):Sure s':=
 h.of hr hw he (fun e e'=>by rw[hd,e']at e;cases e) hs
theorem Sure.work(h:Sure s)(hf:Fine N s)(i:Int):Sure (workS s i).1:=
 h.kept (h.ring.work hf i) (h.waves.work hf i) (h.even.work hf i) (workS_done s i) (fun e=>by unfold workS;rw[if_pos (workerE_done e i)])
theorem Sure.steal(h:Sure s)(hf:Fine N s)(i v:Int):Sure (stealS s i v).1:=
 h.kept (h.ring.steal hf i v) (h.waves.steal hf i v) (h.even.steal hf i v) (stealS_done s i v) (fun e=>by unfold stealS;rw[if_pos (workerE_done e i)])
theorem Sure.same(h:Sure s){s':RunS}(e:Same s s'):Sure s':=
 ⟨h.ring.same e,h.waves.same e.keeps e.W (e.shape.2 works),⟨by have:=h.even.eq;rw[bal_congr e.W,e.shape.2];exact this⟩,fun hd=>by
  have:=h.rest (by rw[<-e.done];exact hd)
  exact⟨by rw[e.W];exact this.1,by rw[e.shape.2];exact this.2⟩⟩
theorem Sure.drop(h:Sure s)(k:Int):Sure (dropS s k).1:=h.same (Same.drop s k)
theorem Sure.twice(h:Sure s)(k:Int):Sure (twiceS s k).1:=h.same (Same.twice s k)
theorem Sure.tick(h:Sure s)(i:Int):Sure (tickS s i).1:=h.same (Same.tick s i)
theorem Sure.deliver(h:Sure s)(hf:Fine N s)(hN:N+5<=90000000)(k:Int):Sure (deliverS s k).1:=
 h.kept (h.ring.deliver h.even hf hN k) (h.waves.deliver hf hN k) (h.even.deliver hf hN k) (deliverS_done s k) (fun e=>by unfold deliverS;rw[if_pos (messageE_done e k)])
theorem Sure.pass(h:Sure s)(hf:Fine N s)(i:Int):Sure (passS s i).1:=
 h.kept (h.ring.pass hf i) (h.waves.pass hf i) (h.even.pass hf i) (passS_done s i) (fun e=>by unfold passS;rw[if_pos (workerE_done e i)])
theorem waves_done{r:Int}:∀(L:List Nat) (s:RunS),(L.foldl (waveS r) s).done=s.done:=by
 intro L
 induction L with
 |nil=>exact fun s=>rfl
 |cons k L ih=>intro s;rw[List.foldl_cons];exact(ih _).trans (sendS_done s _)
theorem Sure.check(h:Sure s)(hf:Fine N s)(hN:N<=1000000000):Sure (checkS s).1:=by
 refine h.of (h.ring.check hf hN) (h.waves.check h.even hf hN) (h.even.check hf hN) (fun e e'=> ?_) (fun e=>by unfold checkS;rw[if_pos (startE_done e)])
 unfold checkS at e ⊢
 split at e
 ·rw[e']at e;cases e
 ·rename_i hst
  rw[if_neg hst]
  split at e
  ·rename_i hmode
   rw[if_pos hmode]
   unfold ringS at e ⊢
   split at e
   ·rw[e']at e;cases e
   ·rename_i x hx
    try simp only
    split at e
    ·rw[e']at e;cases e
    ·rename_i hc
     rw[if_neg hc]
     split at e
     ·rename_i hr
      rw[if_pos hr]
      have hh:x.has=true:=by
       cases hb:x.has with
       |true=>rfl
       |false=>exact absurd (.inl hb) hc
      have hi:x.tasks=[]:=by
       cases hb:x.tasks with
       |nil=>rfl
       |cons a b=>exact absurd (.inr (by rw[hb];simp)) hc
      have:=h.ring.all h.even hx hh hi hr
      exact⟨this.1,(total_congr works rfl).trans this.2⟩
     ·rw[sendS_done]at e
      have e2:s.done=true:=e
      rw[e']at e2;cases e2
  ·rename_i hmode
   rw[if_neg hmode]
   unfold wavesS at e ⊢
   split at e
   ·rw[e']at e;cases e
   ·rename_i x hx
    try simp only
    split at e
    ·rw[e']at e;cases e
    ·rename_i hc
     rw[if_neg hc]
     split at e
     ·rename_i ht
      rw[if_pos ht]
      have hop:openB s=false:=by
       cases hb:openB s with
       |false=>rfl
       |true=>exact absurd (.inr hb) hc
      have:=h.waves.all hop ht
      exact⟨this.1,(total_congr works rfl).trans this.2⟩
     ·rw[waves_done]at e
      unfold notedS at e
      split at e
      ·have e2:s.done=true:=e
       rw[e']at e2;cases e2
      ·have e2:s.done=true:=e
       rw[e']at e2;cases e2
end
theorem mass_work_some{N:Nat}{s:RunS}(h:Fine N s)(i:Int)(h0:(workS s i).2=0):∃x t,s.W[i.toNat]?= some x/\x.tasks.getLast?= some t/\∀(g:TaskS->Nat) (o:ByteArray->Nat),mass g o (workS s i).1+g t=mass g o s+o t.id+((children s.ks t).map g).sum:=by
 unfold workS at h0 ⊢
 split at h0
 ·rename_i hw
  exact absurd h0 hw
 ·rename_i hw
  rw[if_neg hw]
  obtain⟨hlo,hlt⟩:=workerE_range hw
  obtain⟨hil,hie⟩:=h.nat hlo hlt
  split at h0
  ·cases h0
  ·rename_i x hx
   have hxo:=h.works x (List.mem_of_getElem? hx)
   split at h0
   ·cases h0
   ·rename_i t ht
    have htm:t∈x.tasks:=List.mem_of_getLast? ht
    refine⟨x,t,hx,ht,fun g o=> ?_⟩
    split at h0
    ·cases h0
    ·rename_i hroom
     simp only
     rw[if_neg hroom]
     have hsum:(x.tasks.map g).sum=(x.tasks.dropLast.map g).sum+g t:=by
      have hne:x.tasks≠ []:=fun e=>by rw[e]at htm;simp at htm
      have e:=List.dropLast_concat_getLast hne
      have e2:x.tasks.getLast hne=t:=by
       have:=List.getLast?_eq_some_getLast hne
       rw[this]at ht
       exact Option.some.inj ht
      rw[e2]at e
      conv=>lhs;rw[<-e]
      rw[sum_append]
      simp
     have e1:=tasksSum_set g (s:=s) (x':={x with tasks:=x.tasks.dropLast++children s.ks t}) hx
     dsimp only at e1
     rw[sum_append,hsum]at e1
     have a2:mass g o s=tasksSum g s+(s.values.map fun v=>o v.1).sum+total (weigh g o) s:=rfl
     split
     ·have a1:mass g o {s with W:=s.W.set i.toNat {x with tasks:=x.tasks.dropLast++children s.ks t},values:=putS s.values (t.id,valueOf s.ks t)}=tasksSum g {s with W:=s.W.set i.toNat {x with tasks:=x.tasks.dropLast++children s.ks t}}+((putS s.values (t.id,valueOf s.ks t)).map fun v=>o v.1).sum+total (weigh g o) s:=rfl
      rw[putS_sum]at a1
      dsimp only at a1
      show mass g o {s with W:=s.W.set i.toNat {x with tasks:=x.tasks.dropLast++children s.ks t},values:=putS s.values (t.id,valueOf s.ks t)}+g t=_
      omega
     ·rename_i hi0
      have hwk:WorkerOK s.ks N {x with tasks:=x.tasks.dropLast++children s.ks t}:=by
       refine⟨?_,fun c hc=> ?_,hxo.sent,hxo.came,hxo.tok⟩
       ·have:=h.rmax
        have:x.tasks.length≠0:=fun e=>by rw[List.length_eq_zero_iff]at e;rw[e]at htm;simp at htm
        simp
        omega
       ·rcases List.mem_append.1 hc with e|e
        ·exact hxo.good c ((List.dropLast_sublist _).subset e)
        ·exact childrenFrom_good h.prog (hxo.good t htm) c e
      have h2:=h.two
      have hlen:=h.len
      have b:=mass_send g o (h.reworker i.toNat hwk (Nat.le_refl _)) {msg0 with src:=i,dst:=0,kind:=4,v:=(t.id,valueOf s.ks t)} (by simpa using hil) (by simp;omega)
      rw[b]
      have a1:mass g o {s with W:=s.W.set i.toNat {x with tasks:=x.tasks.dropLast++children s.ks t}}=tasksSum g {s with W:=s.W.set i.toNat {x with tasks:=x.tasks.dropLast++children s.ks t}}+(s.values.map fun v=>o v.1).sum+total (weigh g o) s:=rfl
      have a3:weigh g o {msg0 with src:=i,dst:=0,kind:=4,v:=(t.id,valueOf s.ks t)}=o t.id:=by simp[weigh]
      omega
theorem mass_work_none{s:RunS}(i:Int)(h0:(workS s i).2≠0)(g:TaskS->Nat)(o:ByteArray->Nat):mass g o (workS s i).1=mass g o s:=by
 unfold workS at h0 ⊢
 split at h0
 ·rename_i h
  rw[if_pos h]
 ·rename_i h
  rw[if_neg h]
  split at h0
  ·rfl
  ·rename_i x hx
   split at h0
   ·rename_i ht
    simp only
   ·rename_i t ht
    simp only
    split at h0
    ·rename_i hr
     rw[if_pos hr]
     rfl
    ·dsimp only at h0
     split at h0<;>exact absurd rfl h0
structure Play(did:List ByteArray)(s:RunS):Prop where
 sure:Sure s
 own:Own (·∈allTasks s.ks s.kind s.arg) s
 all:∀o,mass (treeSum s.ks o) o s=treeSum s.ks o ⟨⟨#[]⟩,s.kind,s.arg⟩
 dids:∀o,(did.map o).sum=mass (fun _=>0) o s
 byIds:ByIds s.values
theorem prog_good{ks:List KindS}{kind arg:Int}(h:progB ks kind arg=true):Good ks ⟨⟨#[]⟩,kind,arg⟩/\arg<=12:=by
 simp only[progB,Bool.and_eq_true,numB,rangeB,decide_eq_true_eq]at h
 obtain⟨⟨⟨h1,h2⟩,h3⟩,h4⟩:=h
 refine⟨⟨?_,?_,?_,?_⟩,h4.2⟩
 ·exact h3.1
 ·show kind < _;omega
 ·exact h4.1
 ·show((0:Nat):Int)+arg<=12;omega
theorem Play.new{workers room mode kind arg:Int}{ks:List KindS}(hc:cfgB workers room mode=true)(hp:progB ks kind arg=true):Play [] (newS workers room mode ks kind arg):=by
 refine⟨Sure.new hc hp,Own.new ?_,fun o=>mass_new _ _ _ _ _ _,fun o=>(mass_new (g:=fun _=>0) (o:=o) workers room mode kind arg ks).symm,?_⟩
 ·exact List.mem_cons_self ..
 ·exact List.Pairwise.nil
section
variable {N:Nat} {s s':RunS} {did:List ByteArray}
theorem Play.of(h:Play did s)(e:Stays s s')(hs:Sure s')(ho:Own (·∈allTasks s.ks s.kind s.arg) s')(hm:∀g o,mass g o s'=mass g o s):Play did s':=by
 refine⟨hs,?_,fun o=> ?_,fun o=> ?_,e.vals h.byIds⟩
 ·rw[e.ks,e.kind,e.arg];exact ho
 ·rw[e.ks,e.kind,e.arg,hm];exact h.all o
 ·rw[hm];exact h.dids o
theorem Play.steal(h:Play did s)(hf:Fine N s)(i v:Int):Play did (stealS s i v).1:=h.of (.steal s i v) (h.sure.steal hf i v) (h.own.steal hf i v) (fun _ _=>mass_steal hf i v)
theorem Play.drop(h:Play did s)(k:Int):Play did (dropS s k).1:=h.of (.drop s k) (h.sure.drop k) (h.own.drop k) (fun _ _=>mass_drop s k)
theorem Play.twice(h:Play did s)(k:Int):Play did (twiceS s k).1:=h.of (.twice s k) (h.sure.twice k) (h.own.twice k) (fun _ _=>mass_twice s k)
theorem Play.tick(h:Play did s)(i:Int):Play did (tickS s i).1:=h.of (.tick s i) (h.sure.tick i) (h.own.tick i) (fun _ _=>mass_tick s i)
theorem Play.deliver(h:Play did s)(hf:Fine N s)(hN:N+5<=90000000)(k:Int):Play did (deliverS s k).1:=h.of (.deliver s k) (h.sure.deliver hf hN k) (h.own.deliver hf hN k) (fun _ _=>mass_deliver hf hN k)
theorem Play.pass(h:Play did s)(hf:Fine N s)(i:Int):Play did (passS s i).1:=h.of (.pass s i) (h.sure.pass hf i) (h.own.pass hf i) (fun _ _=>mass_pass hf i)
theorem Play.check(h:Play did s)(hf:Fine N s)(hN:N<=1000000000):Play did (checkS s).1:=h.of (.check s) (h.sure.check hf hN) (h.own.check hf hN) (fun _ _=>mass_check hf hN)
theorem Play.work(h:Play did s)(hf:Fine N s)(i:Int):((workS s i).2≠0/\Play did (workS s i).1)\/((workS s i).2=0/\∃x t,s.W[i.toNat]?= some x/\x.tasks.getLast?= some t/\Play (did++ [t.id]) (workS s i).1):=by
 have hown:=h.own.work hf (fun t ht c hc=>tree_closed hf.prog 12 _ (prog_good hf.prog).1 (by show s.arg<=((12:Nat):Int);exact(prog_good hf.prog).2) t ht c hc) i
 by_cases h0:(workS s i).2=0
 ·refine .inr ⟨h0,?_⟩
  obtain⟨x,t,hx,ht,hm⟩:=mass_work_some hf i h0
  refine⟨x,t,hx,ht,?_⟩
  have e:=Stays.work s i
  refine⟨h.sure.work hf i,?_,fun o=> ?_,fun o=> ?_,e.vals h.byIds⟩
  ·rw[e.ks,e.kind,e.arg];exact hown
  ·rw[e.ks,e.kind,e.arg,mass_work hf rfl (tree_counts hf.prog o) i];exact h.all o
  ·have a:=hm (fun _=>0) o
   have b:=h.dids o
   rw[List.map_append,List.sum_append]
   rw[sum_zero]at a
   simp only[List.map_cons,List.map_nil,List.sum_cons,List.sum_nil]
   omega
 ·exact .inl ⟨h0,h.of (.work s i) (h.sure.work hf i) hown (fun g o=>mass_work_none i h0 g o)⟩
end
theorem all_same:∀{l:List TaskS},l.Pairwise (fun a b=>idl a < idl b)->∀{a b:TaskS},a∈l->b∈l->a.id=b.id->a=b
 |[],_,a,b,ha,_,_=>by cases ha
 |c :: l,h,a,b,ha,hb,e=>by
  obtain⟨h1,h2⟩:=List.pairwise_cons.1 h
  rcases List.mem_cons.1 ha with rfl|ha'
  ·rcases List.mem_cons.1 hb with rfl|hb'
   ·rfl
   ·have:=h1 b hb'
    unfold idl at this
    rw[e]at this
    exact absurd this (List.lt_irrefl _)
  ·rcases List.mem_cons.1 hb with rfl|hb'
   ·have:=h1 a ha'
    unfold idl at this
    rw[e]at this
    exact absurd this (List.lt_irrefl _)
   ·exact all_same h2 ha' hb' e
theorem tree_self(ks:List KindS)(o:ByteArray->Nat)(t:TaskS):o t.id<=treeSum ks o t:=by
 unfold treeSum
 have e:tree ks 12 t=t :: (children ks t).flatMap (tree ks 11):=rfl
 rw[e,List.map_cons,List.sum_cons]
 omega
theorem sum_le_sum{α:Type}{f g:α->Nat}(h:∀a,f a<=g a):∀l:List α,(l.map f).sum<=(l.map g).sum
 |[]=>Nat.le_refl _
 |a :: l=>by
  rw[List.map_cons,List.map_cons,List.sum_cons,List.sum_cons]
  exact Nat.add_le_add (h a) (sum_le_sum h l)
theorem tasksSum_le{f g:TaskS->Nat}(h:∀a,f a<=g a)(s:RunS):tasksSum f s<=tasksSum g s:=sum_le_sum (f:=fun x:WorkerS=>(x.tasks.map f).sum) (g:=fun x=>(x.tasks.map g).sum) (fun x=>sum_le_sum h x.tasks) s.W
theorem total_le{f g:MsgS->Nat}(h:∀a,f a<=g a)(s:RunS):total f s<=total g s:=sum_le_sum (fun ls=>sum_le_sum (fun _=>sum_le_sum h _) ls) s.links
theorem Play.once{N:Nat}{s:RunS}{did:List ByteArray}(h:Play did s)(hf:Fine N s)(x:ByteArray):tasksSum (fun t=>isId x t.id) s+(did.map (isId x)).sum<=1:=by
 have h1:=tree_once hf.prog x
 have h2:=h.all (isId x)
 have h3:=h.dids (isId x)
 have e2:mass (treeSum s.ks (isId x)) (isId x) s=tasksSum (treeSum s.ks (isId x)) s+(s.values.map fun v=>isId x v.1).sum+total (weigh (treeSum s.ks (isId x)) (isId x)) s:=rfl
 have e3:mass (fun _=>0) (isId x) s=tasksSum (fun _=>0) s+(s.values.map fun v=>isId x v.1).sum+total (weigh (fun _=>0) (isId x)) s:=rfl
 have a1:tasksSum (fun t=>isId x t.id) s<=tasksSum (treeSum s.ks (isId x)) s:=tasksSum_le (fun t=>tree_self s.ks (isId x) t) s
 have a2:tasksSum (fun _=>0) s=0:=by
  unfold tasksSum
  simp only[sum_zero]
 have a3:total (weigh (fun _=>0) (isId x)) s<=total (weigh (treeSum s.ks (isId x)) (isId x)) s:=total_le (fun m=>by unfold weigh;split<;>first|exact Nat.zero_le _|exact Nat.le_refl _) s
 omega
def idsS(W:List WorkerS):List ByteArray:=W.flatMap fun x=>x.tasks.map (·.id)
theorem ids_sum(o:ByteArray->Nat):∀W:List WorkerS,((idsS W).map o).sum=(W.map fun x=>(x.tasks.map fun t=>o t.id).sum).sum
 |[]=>rfl
 |x :: W=>by
  have e:idsS (x :: W)=x.tasks.map (·.id)++idsS W:=rfl
  rw[e,List.map_append,List.sum_append,ids_sum o W,List.map_cons,List.sum_cons,List.map_map]
  rfl
theorem Play.nodup{N:Nat}{s:RunS}{did:List ByteArray}(h:Play did s)(hf:Fine N s):(idsS s.W++did).Nodup:=by
 refine nodup_of (fun x=> ?_)
 have h1:=h.once hf x
 have h2:=ids_sum (isId x) s.W
 show((idsS s.W++did).map (isId x)).sum<=1
 rw[List.map_append,List.sum_append,h2]
 exact h1
theorem Play.theirs{s:RunS}{did:List ByteArray}(h:Play did s):∀x∈s.W,∀t∈x.tasks,t∈allTasks s.ks s.kind s.arg:=h.own.tasks
theorem sum_none{α:Type}{f:α->Nat}:∀{l:List α},(∀a∈l,f a=0)->(l.map f).sum=0
 |[],_=>rfl
 |a :: l,h=>by rw[List.map_cons,List.sum_cons,h a (List.mem_cons_self ..),sum_none (fun b hb=>h b (List.mem_cons_of_mem _ hb))]
theorem links_mem{s:RunS}{ls:List LinkS}{l:LinkS}(h1:ls∈s.links)(h2:l∈ls):∃i j,l=linkOf s i j:=by
 obtain⟨i,hi⟩:=List.mem_iff_getElem?.1 h1
 obtain⟨j,hj⟩:=List.mem_iff_getElem?.1 h2
 exact⟨i,j,by unfold linkOf;rw[hi,Option.getD_some,hj,Option.getD_some]⟩
theorem Play.dones{s:RunS}{did:List ByteArray}(h:Play did s):∀x∈did,∃t∈allTasks s.ks s.kind s.arg,t.id=x:=by
 have h1:=h.dids (fun x=>open Classical in if∃t∈allTasks s.ks s.kind s.arg,t.id=x then 0 else 1)
 have h2:mass (fun _=>0) (fun x=>open Classical in if∃t∈allTasks s.ks s.kind s.arg,t.id=x then 0 else 1) s=0:=by
  unfold mass
  have a1:∀o:ByteArray->Nat,tasksSum (fun _=>0) s+o ⟨#[]⟩=o ⟨#[]⟩:=fun o=>by
   unfold tasksSum
   simp only[sum_zero,Nat.zero_add]
  have a1:=a1 (fun _=>0)
  have a2:(s.values.map fun v=>(fun x=>open Classical in if∃t∈allTasks s.ks s.kind s.arg,t.id=x then(0:Nat)else 1) v.1).sum=0:=sum_none (fun v hv=>by
   obtain⟨t,ht,e⟩:=h.own.vals v hv
   exact if_pos ⟨t,ht,by rw[e]⟩)
  have a3:total (weigh (fun _=>0) (fun x=>open Classical in if∃t∈allTasks s.ks s.kind s.arg,t.id=x then 0 else 1)) s=0:=sum_none (fun ls h1=>sum_none (fun l h2=>by
   obtain⟨i,j,e⟩:=links_mem h1 h2
   subst e
   refine sum_none (fun m hm=> ?_)
   have hm:=List.mem_of_mem_drop hm
   unfold weigh
   split
   ·rfl
   ·split
    ·rename_i h4
     obtain⟨t,ht,e⟩:=h.own.results i j m hm h4
     exact if_pos ⟨t,ht,by rw[e]⟩
    ·rfl))
  rw[a2,a3]
  exact a1
 rw[h2]at h1
 intro x hx
 have:=mem_sum (fun x=>open Classical in if∃t∈allTasks s.ks s.kind s.arg,t.id=x then(0:Nat)else 1) did x hx
 rw[h1]at this
 by_cases e:∃t∈allTasks s.ks s.kind s.arg,t.id=x
 ·exact e
 ·rw[if_neg e]at this
  omega
theorem sum_ones{α:Type}:∀l:List α,(l.map (fun _=>(1:Nat))).sum=l.length
 |[]=>rfl
 |a :: l=>by rw[List.map_cons,List.sum_cons,sum_ones l,List.length_cons];omega
theorem Play.few{s:RunS}{did:List ByteArray}(h:Play did s):(idsS s.W).length+did.length<=(allTasks s.ks s.kind s.arg).length:=by
 have h2:=h.all (fun _=>1)
 have h3:=h.dids (fun _=>1)
 rw[sum_ones]at h3
 have e1:treeSum s.ks (fun _=>1) ⟨⟨#[]⟩,s.kind,s.arg⟩=(allTasks s.ks s.kind s.arg).length:=sum_ones _
 have e2:mass (treeSum s.ks (fun _=>1)) (fun _=>1) s=tasksSum (treeSum s.ks (fun _=>1)) s+(s.values.map fun _=>1).sum+total (weigh (treeSum s.ks (fun _=>1)) (fun _=>1)) s:=rfl
 have e3:mass (fun _=>0) (fun _=>1) s=tasksSum (fun _=>0) s+(s.values.map fun _=>1).sum+total (weigh (fun _=>0) (fun _=>1)) s:=rfl
 have a1:tasksSum (fun _=>1) s<=tasksSum (treeSum s.ks (fun _=>1)) s:=tasksSum_le (fun t=>tree_self s.ks (fun _=>1) t) s
 have a2:tasksSum (fun _=>0) s=0:=by
  unfold tasksSum
  simp only[sum_zero]
 have a3:total (weigh (fun _=>0) (fun _=>1)) s<=total (weigh (treeSum s.ks (fun _=>1)) (fun _=>1)) s:=total_le (fun m=>by unfold weigh;split<;>first|exact Nat.zero_le _|exact Nat.le_refl _) s
 have a4:=ids_sum (fun _=>1) s.W
 rw[sum_ones]at a4
 have a5:tasksSum (fun _=>1) s=(s.W.map fun x=>(x.tasks.map fun _=>1).sum).sum:=rfl
 omega
theorem Play.rest{s:RunS}{did:List ByteArray}(h:Play did s)(hr:Rest s)(o:ByteArray->Nat):(s.values.map fun v=>o v.1).sum=treeSum s.ks o ⟨⟨#[]⟩,s.kind,s.arg⟩/\(did.map o).sum=treeSum s.ks o ⟨⟨#[]⟩,s.kind,s.arg⟩:=by
 have t0:∀g,tasksSum g s=0:=fun g=>sum_none (fun x hx=>by rw[hr.1 x hx];rfl)
 have w0:∀g,total (weigh g o) s=0:=fun g=>sum_none (fun ls h1=>sum_none (fun l h2=>sum_none (fun m hm=>by
  have a:works m<=linkSum works l:=mem_sum works _ m hm
  have b:linkSum works l<=(ls.map (linkSum works)).sum:=mem_sum _ _ l h2
  have c:(ls.map (linkSum works)).sum<=total works s:=mem_sum (fun ls:List LinkS=>(ls.map (linkSum works)).sum) _ ls h1
  have d:=hr.2
  have e:works m=0:=by omega
  unfold works at e
  unfold weigh
  split
  ·rename_i h'
   rw[if_pos (.inl h')]at e
   cases e
  ·split
   ·rename_i h'
    rw[if_pos (.inr h')]at e
    cases e
   ·rfl)))
 have h2:=h.all o
 have h3:=h.dids o
 unfold mass at h2 h3
 rw[t0,w0]at h2 h3
 omega
theorem Play.announced{N:Nat}{s:RunS}{did:List ByteArray}(h:Play did s)(hf:Fine N s)(hd:s.done=true):s.values=pairsOf s.ks (allTasks s.ks s.kind s.arg)/\did.length=(allTasks s.ks s.kind s.arg).length/\∀x∈s.W,x.tasks=[]:=by
 have hr:=h.sure.rest hd
 refine⟨?_,?_,hr.1⟩
 ·refine byIds_eq h.byIds (List.pairwise_map.2 (all_order hf.prog)) ?_
  refine perm_of (fun v=> ?_)
  have hc:∀(l:List (ByteArray×Int)),(∀u∈l,∃t∈allTasks s.ks s.kind s.arg,u=(t.id,valueOf s.ks t))->(l.map fun y=>if y=v then 1 else 0).sum=open Classical in if∃t∈allTasks s.ks s.kind s.arg,v=(t.id,valueOf s.ks t)then(l.map fun u=>isId v.1 u.1).sum else 0:=by
   intro l hl
   split
   ·rename_i hex
    obtain⟨t,ht,e⟩:=hex
    refine congrArg List.sum (List.map_congr_left (fun u hu=> ?_))
    obtain⟨t',ht',e'⟩:=hl u hu
    have:u=v ↔ u.1=v.1:=by
     refine⟨fun h=>by rw[h],fun h=> ?_⟩
     have h':t'.id=t.id:=by rw[e,e']at h;exact h
     have:=all_same (all_order hf.prog) ht' ht h'
     rw[e,e',this]
    unfold isId
    by_cases q:u.1=v.1
    ·rw[if_pos (this.2 q),if_pos q]
    ·rw[if_neg (fun h=>q (this.1 h)),if_neg q]
   ·rename_i hex
    refine sum_none (fun u hu=>if_neg (fun e=>hex ?_))
    rw[<-e]
    exact hl u hu
  rw[hc _ h.own.vals,hc (pairsOf s.ks (allTasks s.ks s.kind s.arg)) (fun u hu=>by
   obtain⟨t,ht,e⟩:=List.mem_map.1 hu
   exact⟨t,ht,e.symm⟩)]
  rw[(h.rest hr (isId v.1)).1]
  unfold pairsOf
  rw[List.map_map]
  rfl
 ·have:=(h.rest hr (fun _=>1)).2
  rw[sum_ones]at this
  rw[this]
  exact sum_ones _
def askN(m:MsgS):Nat:=if m.kind=1\/m.kind=6 then 1 else 0
def loadM(m:MsgS):Nat:=if m.kind=0 then 1 else 2
def load(s:RunS):Nat:=(s.way.map loadM).sum+2*total askN s
def crowd(s:RunS):Nat:=s.way.length+total askN s
theorem linkOf_sends(s:RunS)(m:MsgS)(hl:s.links.length=s.W.length)(hr:∀ls∈s.links,ls.length=s.W.length)(hi:m.src.toNat < s.W.length)(hj:m.dst.toNat < s.W.length)(a b:Nat):linkOf (sendS s m) a b=if a=m.src.toNat/\b=m.dst.toNat then{linkOf s a b with all:=(linkOf s a b).all++ [{m with no:=(linkOf s a b).all.length+1}]}else linkOf s a b:=by
 have h:=linkOf_set {linkOf s m.src.toNat m.dst.toNat with all:=(linkOf s m.src.toNat m.dst.toNat).all++ [{m with no:=(linkOf s m.src.toNat m.dst.toNat).all.length+1}]} hl hr hi hj a b
 have e:linkOf (sendS s m) a b=linkOf (setLink s m.src.toNat m.dst.toNat {linkOf s m.src.toNat m.dst.toNat with all:=(linkOf s m.src.toNat m.dst.toNat).all++ [{m with no:=(linkOf s m.src.toNat m.dst.toNat).all.length+1}]}) a b:=by
  unfold sendS wayS linkOf setLink
  dsimp only
  split<;>split<;>rfl
 rw[e,h]
 split
 ·rename_i q
  obtain⟨rfl,rfl⟩:=q
  rfl
 ·rfl
theorem sendS_way(s:RunS)(m:MsgS):(sendS s m).way=if s.way.length < 60 then s.way++ [{m with no:=(linkOf s m.src.toNat m.dst.toNat).all.length+1}]else s.way:=by
 unfold sendS wayS linkOf
 dsimp only
 split<;>split<;>rfl
theorem cameS_cases(s:RunS)(m:MsgS)(h6:m.kind=6->m.src=0):(askN m=0/\(cameS s m).links=s.links/\(cameS s m).way=s.way/\(cameS s m).W.length=s.W.length)\/(askN m=1/\∃s1 m',s1.links=s.links/\s1.way=s.way/\s1.W.length=s.W.length/\m'.src=m.dst/\m'.dst=m.src/\((m.kind=1/\(m'.kind=2\/m'.kind=3))\/(m.kind=6/\m'.kind=7))/\cameS s m=sendS s1 m'):=by
 unfold askN
 by_cases h1:m.kind=1
 ·refine .inr ⟨by simp[h1],?_⟩
  unfold cameS
  dsimp only
  rw[if_pos h1]
  split
  ·exact⟨s,_,rfl,rfl,rfl,rfl,rfl,.inl ⟨h1,.inr rfl⟩,rfl⟩
  ·refine⟨_,_,?_,?_,?_,?_,?_,?_,rfl⟩
   ·rfl
   ·rfl
   ·exact List.length_set ..
   ·rfl
   ·rfl
   ·exact .inl ⟨h1,.inl rfl⟩
 ·by_cases h6':m.kind=6
  ·refine .inr ⟨by simp[h6'],?_⟩
   unfold cameS
   dsimp only
   rw[if_neg h1,if_neg (by omega),if_neg (by omega),if_neg (by omega),if_neg (by omega),if_pos h6']
   exact⟨s,_,rfl,rfl,rfl,rfl,(h6 h6').symm,.inr ⟨h6',rfl⟩,rfl⟩
  ·refine .inl ⟨if_neg (by omega),?_⟩
   unfold cameS notedS
   dsimp only
   rw[if_neg h1]
   repeat' split
   all_goals first|exact absurd (by assumption) h6'|simp
structure Coming(i j:Nat)(s s':RunS):Prop where
 way:∃t,s'.way=s.way++t/\t.length+total askN s'<=total askN s/\∀m∈t,m.kind≠0
 all:∀a b,(linkOf s a b).all <+: (linkOf s' a b).all
 came:∀a b,¬(a=i/\b=j)->(linkOf s' a b).came=(linkOf s a b).came
 up:(linkOf s i j).came<=(linkOf s' i j).came
 known:∀a b,(linkOf s' a b).known=(linkOf s a b).known
theorem Coming.refl(i j:Nat)(s:RunS):Coming i j s s:=⟨⟨[],by simp,by simp,by simp⟩,fun _ _=>List.prefix_refl _,fun _ _ _=>rfl,Int.le_refl _,fun _ _=>rfl⟩
theorem Coming.trans{i j:Nat}{a b c:RunS}(h:Coming i j a b)(k:Coming i j b c):Coming i j a c:=by
 obtain⟨t1,e1,l1,n1⟩:=h.way
 obtain⟨t2,e2,l2,n2⟩:=k.way
 refine⟨⟨t1++t2,by rw[e2,e1,List.append_assoc],by rw[List.length_append];omega,fun m hm=> ?_⟩,fun x y=>(h.all x y).trans (k.all x y),fun x y e=>(k.came x y e).trans (h.came x y e),Int.le_trans h.up k.up,fun x y=>(k.known x y).trans (h.known x y)⟩
 rcases List.mem_append.1 hm with e|e
 ·exact n1 m e
 ·exact n2 m e
theorem Coming.thing{N:Nat}{s:RunS}(h:Fine N s){i j:Nat}{m:MsgS}(hi:i < s.W.length)(hj:j < s.W.length)(hm1:(linkOf s i j).all[(linkOf s i j).came.toNat]?= some m)(hm2:MsgOK s.ks (s.answers≠ []) N i j (linkOf s i j).came.toNat m)(hm3:Fine N (setLink s i j {linkOf s i j with came:=(linkOf s i j).came+1})):Coming i j s (cameS (setLink s i j {linkOf s i j with came:=(linkOf s i j).came+1}) m)/\(linkOf (cameS (setLink s i j {linkOf s i j with came:=(linkOf s i j).came+1}) m) i j).came=(linkOf s i j).came+1:=by
 have hsrc:=hm2.src
 have hdst:=hm2.dst
 have ht:=total_step askN h hi hj hm1
 have hls:=fun a b=>linkOf_set {linkOf s i j with came:=(linkOf s i j).came+1} h.llen h.lrow hi hj a b
 generalize hS:setLink s i j {linkOf s i j with came:=(linkOf s i j).came+1}=S at *
 have hSW:S.W=s.W:=by rw[<-hS];rfl
 have hSy:S.way=s.way:=by rw[<-hS];rfl
 have hb1:∀a b,(linkOf S a b).all=(linkOf s a b).all/\(linkOf S a b).known=(linkOf s a b).known:=fun a b=>by
  rw[hls]
  split
  ·rename_i q
   obtain⟨rfl,rfl⟩:=q
   exact⟨rfl,rfl⟩
  ·exact⟨rfl,rfl⟩
 have hb2:∀a b,¬(a=i/\b=j)->(linkOf S a b).came=(linkOf s a b).came:=fun a b q=>by rw[hls,if_neg q]
 have hb3:(linkOf S i j).came=(linkOf s i j).came+1:=by rw[hls,if_pos ⟨rfl,rfl⟩]
 rcases cameS_cases S m (fun h=>by rw[hsrc,hm2.wave h];rfl)with⟨h0,hl,hy,-⟩|⟨h1,s1,m',e1,e2,e3,e4,e5,e6,e7⟩
 ·have hlk:∀a b,linkOf (cameS S m) a b=linkOf S a b:=fun a b=>by unfold linkOf;rw[hl]
  refine⟨⟨⟨[],by rw[hy,hSy];simp,by rw[total_congr askN hl];simp;omega,by simp⟩,fun a b=>by rw[hlk,(hb1 a b).1];exact List.prefix_refl _,fun a b q=>by rw[hlk,hb2 a b q],by rw[hlk,hb3];omega,fun a b=>by rw[hlk,(hb1 a b).2]⟩,by rw[hlk,hb3]⟩
 ·have hfl:s1.links.length=s1.W.length:=by rw[e1,e3];exact hm3.llen
  have hfr:∀ls∈s1.links,ls.length=s1.W.length:=by rw[e1,e3];exact hm3.lrow
  have hmi:m'.src.toNat < s1.W.length:=by rw[e3,e4,hdst,hSW];simpa using hj
  have hmj:m'.dst.toNat < s1.W.length:=by rw[e3,e5,hsrc,hSW];simpa using hi
  have hq:=linkOf_sends s1 m' hfl hfr hmi hmj
  have hlk:∀a b,linkOf s1 a b=linkOf S a b:=fun a b=>by unfold linkOf;rw[e1]
  have hk0:∀n,askN {m' with no:=n}=0:=fun n=>if_neg (by show¬(m'.kind=1\/m'.kind=6);omega)
  have htot:total askN (sendS s1 m')=total askN S:=by
   have a:=total_set askN {linkOf s1 m'.src.toNat m'.dst.toNat with all:=(linkOf s1 m'.src.toNat m'.dst.toNat).all++ [{m' with no:=(linkOf s1 m'.src.toNat m'.dst.toNat).all.length+1}]} hfl hfr hmi hmj
   have b:total askN (sendS s1 m')=total askN (setLink s1 m'.src.toNat m'.dst.toNat {linkOf s1 m'.src.toNat m'.dst.toNat with all:=(linkOf s1 m'.src.toNat m'.dst.toNat).all++ [{m' with no:=(linkOf s1 m'.src.toNat m'.dst.toNat).all.length+1}]}):=by
    refine total_congr askN ?_
    unfold sendS wayS linkOf setLink
    dsimp only
    split<;>split<;>rfl
   have hc:(linkOf s1 m'.src.toNat m'.dst.toNat).came.toNat<=(linkOf s1 m'.src.toNat m'.dst.toNat).all.length:=by
    rw[hlk]
    have:=(hm3.links m'.src.toNat m'.dst.toNat (by rw[<-e3];exact hmi) (by rw[<-e3];exact hmj)).came
    omega
   have c:linkSum askN {linkOf s1 m'.src.toNat m'.dst.toNat with all:=(linkOf s1 m'.src.toNat m'.dst.toNat).all++ [{m' with no:=(linkOf s1 m'.src.toNat m'.dst.toNat).all.length+1}]}=linkSum askN (linkOf s1 m'.src.toNat m'.dst.toNat):=by
    unfold linkSum
    dsimp only
    rw[List.drop_append_of_le_length hc,List.map_append,List.sum_append]
    simp[hk0]
   have d:total askN s1=total askN S:=total_congr askN e1
   omega
  rw[e7]
  refine⟨⟨⟨if s1.way.length < 60 then [{m' with no:=(linkOf s1 m'.src.toNat m'.dst.toNat).all.length+1}]else [],?_,?_,?_⟩,fun a b=> ?_,fun a b q=> ?_,?_,fun a b=> ?_⟩,?_⟩
  ·rw[sendS_way,e2,hSy]
   split<;>simp
  ·rw[htot]
   split<;>simp<;>omega
  ·split
   ·intro x hx
    rw[List.mem_singleton.1 hx]
    show m'.kind≠0
    omega
   ·simp
  ·rw[hq]
   split
   ·dsimp only
    rw[hlk,(hb1 a b).1]
    exact List.prefix_append _ _
   ·rw[hlk,(hb1 a b).1]
    exact List.prefix_refl _
  ·rw[hq]
   split<;>((try dsimp only);rw[hlk,hb2 a b q])
  ·rw[hq]
   split<;>((try dsimp only);rw[hlk,hb3];omega)
  ·rw[hq]
   split<;>((try dsimp only);rw[hlk,(hb1 a b).2])
  ·rw[hq]
   split<;>((try dsimp only);rw[hlk,hb3])
theorem Coming.step{N:Nat}{s:RunS}(h:Fine N s){i j:Nat}(hi:i < s.W.length)(hj:j < s.W.length)(hb:nextB (linkOf s i j)=true):Coming i j s (stepS s i j)/\(linkOf (stepS s i j) i j).came=(linkOf s i j).came+1:=by
 obtain⟨m,hm1,hm2,hm3,hm4⟩:=next_msg h hi hj hb
 rw[hm4]
 exact Coming.thing h hi hj hm1 hm2 hm3
theorem Coming.come{i j:Nat}:∀(f d N:Nat) (s:RunS),Fine N s->i < s.W.length->j < s.W.length->N+d<=90000000->(∀n∈(linkOf s i j).kept,n<=(linkOf s i j).came+d)->Coming i j s (comeS f s i j)/\(0 < f->nextB (linkOf s i j)=true->(linkOf s i j).came+1<=(linkOf (comeS f s i j) i j).came):=by
 intro f
 induction f with
 |zero=>intro d N s _ _ _ _ _;exact⟨.refl i j s,fun h=>absurd h (by omega)⟩
 |succ f ih=>
  intro d N s h hi hj hN hd
  unfold comeS
  split
  ·rename_i hb
   obtain⟨h1,h2,h3,h4⟩:=h.step (by omega) hi hj hb
   have hd1:=hd _ h4
   obtain⟨c1,c2⟩:=Coming.step h hi hj hb
   obtain⟨k1,k2⟩:=ih (d - 1) (N+1) _ h1 (by omega) (by omega) (by omega) (fun n hn=>by rw[h2]at hn ⊢;have:=hd n hn;dsimp only;omega)
   refine⟨c1.trans k1,fun _ _=> ?_⟩
   have:=k1.up
   omega
  ·rename_i hb
   exact⟨.refl i j s,fun _ h=>absurd h hb⟩
structure Arrived(h:MsgS)(r:List MsgS)(s s':RunS):Prop where
 way:∃t,s'.way=r++t/\∀m∈t,m.kind=0->m.src=h.dst/\m.dst=h.src/\m.no=(linkOf s' h.src.toNat h.dst.toNat).came
 thin:crowd s'<=crowd s
 less:load s'+1<=load s
 all:∀a b,(linkOf s a b).all <+: (linkOf s' a b).all
 ack:h.kind≠0->crowd s<=60->∃m∈s'.way,m.kind=0/\m.src=h.dst/\m.dst=h.src/\m.no=(linkOf s' h.src.toNat h.dst.toNat).came
 came:∀a b,¬(h.kind≠0/\a=h.src.toNat/\b=h.dst.toNat)->(linkOf s' a b).came=(linkOf s a b).came
 up:∀a b,(linkOf s a b).came<=(linkOf s' a b).came
 next:h.kind≠0->h.no=(linkOf s h.src.toNat h.dst.toNat).came+1->h.no<=(linkOf s' h.src.toNat h.dst.toNat).came
 known:∀a b,(linkOf s a b).known<=(linkOf s' a b).known/\((linkOf s' a b).known=(linkOf s a b).known\/(h.kind=0/\a=h.dst.toNat/\b=h.src.toNat/\(linkOf s' a b).known=h.no))
 told:h.kind=0->h.no<=(linkOf s' h.dst.toNat h.src.toNat).known
theorem keepS_rest(l:LinkS)(n:Int):(keepS l n).all=l.all/\(keepS l n).came=l.came/\(keepS l n).known=l.known:=by
 unfold keepS
 split<;>exact⟨rfl,rfl,rfl⟩
theorem keepS_next(l:LinkS):nextB (keepS l (l.came+1))=true:=by
 unfold keepS
 split
 ·unfold nextB
  simp
 ·rename_i h
  unfold nextB
  rw[List.any_eq_true]
  by_cases q:l.kept.any (·== l.came+1)=false
  ·exact absurd ⟨by omega,by omega,q⟩ h
  ·rw[Bool.not_eq_false]at q
   exact List.any_eq_true.1 q
theorem way_cut{s:RunS}{k:Nat}{h:MsgS}(hk:s.way[k]?= some h)(f:MsgS->Nat):((s.way.take k++s.way.drop (k+1)).map f).sum+f h=(s.way.map f).sum:=by
 obtain⟨hlt,he⟩:=List.getElem?_eq_some_iff.1 hk
 have e:s.way=s.way.take k++h :: s.way.drop (k+1):=by
  rw[<-he,<-List.drop_eq_getElem_cons hlt,List.take_append_drop]
 conv=>rhs;rw[e]
 simp only[List.map_append,List.sum_append,List.map_cons,List.sum_cons]
 omega
theorem deliver_arrives{N:Nat}{s:RunS}(hF:Fine N s)(hN:N+5<=90000000){k:Nat}{h:MsgS}(hk:s.way[k]?= some h)(hs:messageE s (k:Int)=0):(deliverS s (k:Int)).2=0/\Arrived h (s.way.take k++s.way.drop (k+1)) s (deliverS s (k:Int)).1:=by
 have hw:=hF.ways _ (List.mem_of_getElem? hk)
 have hlt:=(List.getElem?_eq_some_iff.1 hk).1
 obtain⟨hsl,hse⟩:=hF.nat hw.src.1 hw.src.2
 obtain⟨hdl,hde⟩:=hF.nat hw.dst.1 hw.dst.2
 have hu:=hF.unway k
 have hlen:(s.way.take k++s.way.drop (k+1)).length+1=s.way.length:=by simp;omega
 have hsum:=way_cut hk loadM
 unfold deliverS
 rw[if_neg (by rw[hs];simp)]
 simp only[Int.toNat_natCast]
 rw[hk,Option.getD_some]
 generalize hS:{s with way:=s.way.take k++s.way.drop (k+1)}=S at *
 have hlk:∀a b,linkOf S a b=linkOf s a b:=fun a b=>by rw[<-hS];rfl
 have hSy:S.way=s.way.take k++s.way.drop (k+1):=by rw[<-hS]
 have hSt:∀f,total f S=total f s:=fun f=>by rw[<-hS];exact total_congr f rfl
 have hSW:S.W=s.W:=by rw[<-hS]
 rw[<-hSW]at hsl hdl
 split
 ·rename_i h0
  refine⟨rfl,?_⟩
  dsimp only
  split
  ·rename_i hn
   have hls:=fun a b=>linkOf_set {linkOf S h.dst.toNat h.src.toNat with known:=h.no} hu.llen hu.lrow hdl hsl a b
   have ht:=fun f=>total_set f {linkOf S h.dst.toNat h.src.toNat with known:=h.no} hu.llen hu.lrow hdl hsl
   have hb:∀a b,(linkOf (setLink S h.dst.toNat h.src.toNat {linkOf S h.dst.toNat h.src.toNat with known:=h.no}) a b).all=(linkOf s a b).all/\(linkOf (setLink S h.dst.toNat h.src.toNat {linkOf S h.dst.toNat h.src.toNat with known:=h.no}) a b).came=(linkOf s a b).came:=fun a b=>by
    rw[hls]
    split
    ·rename_i q
     obtain⟨rfl,rfl⟩:=q
     dsimp only
     rw[hlk]
     exact⟨rfl,rfl⟩
    ·rw[hlk]
     exact⟨rfl,rfl⟩
   have ht':∀f,total f (setLink S h.dst.toNat h.src.toNat {linkOf S h.dst.toNat h.src.toNat with known:=h.no})=total f s:=fun f=>by
    have a:=ht f
    have b:linkSum f {linkOf S h.dst.toNat h.src.toNat with known:=h.no}=linkSum f (linkOf S h.dst.toNat h.src.toNat):=rfl
    have c:=hSt f
    omega
   have hy:(setLink S h.dst.toNat h.src.toNat {linkOf S h.dst.toNat h.src.toNat with known:=h.no}).way=s.way.take k++s.way.drop (k+1):=hSy
   refine⟨⟨[],by rw[hy];simp,by simp⟩,?_,?_,fun a b=>by rw[(hb a b).1];exact List.prefix_refl _,fun q=>absurd h0 q,fun a b _=>(hb a b).2,fun a b=>by rw[(hb a b).2];exact Int.le_refl _,fun q=>absurd h0 q,fun a b=> ?_,fun _=> ?_⟩
   ·unfold crowd
    rw[hy,ht']
    omega
   ·unfold load
    rw[hy,ht']
    have:loadM h=1:=if_pos h0
    omega
   ·rw[hls]
    split
    ·rename_i q
     obtain⟨rfl,rfl⟩:=q
     dsimp only
     rw[hlk]at hn
     exact⟨by omega,.inr ⟨h0,rfl,rfl,rfl⟩⟩
    ·rw[hlk]
     exact⟨Int.le_refl _,.inl rfl⟩
   ·rw[hls,if_pos ⟨rfl,rfl⟩]
    exact Int.le_refl _
  ·rename_i hn
   refine⟨⟨[],by rw[hSy];simp,by simp⟩,?_,?_,fun a b=>by rw[hlk];exact List.prefix_refl _,fun q=>absurd h0 q,fun a b _=>by rw[hlk],fun a b=>by rw[hlk];exact Int.le_refl _,fun q=>absurd h0 q,fun a b=>by rw[hlk];exact⟨Int.le_refl _,.inl rfl⟩,fun _=>by omega⟩
   ·unfold crowd
    rw[hSy,hSt]
    omega
   ·unfold load
    rw[hSy,hSt]
    have:loadM h=1:=if_pos h0
    omega
 ·rename_i h0
  refine⟨rfl,?_⟩
  dsimp only
  obtain⟨n,hn,hne⟩:=hw.sent h0
  have hnl:=(List.getElem?_eq_some_iff.1 hne).1
  have hkp:=hu.keep hsl hdl (n:=h.no) (by rw[hn,hlk];omega)
  have hls:=fun a b=>linkOf_set (keepS (linkOf S h.src.toNat h.dst.toNat) h.no) hu.llen hu.lrow hsl hdl a b
  have ht:=total_set askN (keepS (linkOf S h.src.toNat h.dst.toNat) h.no) hu.llen hu.lrow hsl hdl
  have hks:=keepS_rest (linkOf S h.src.toNat h.dst.toNat) h.no
  have ht2:linkSum askN (keepS (linkOf S h.src.toNat h.dst.toNat) h.no)=linkSum askN (linkOf S h.src.toNat h.dst.toNat):=by
   unfold linkSum
   rw[hks.1,hks.2.1]
  obtain⟨hC,hC2⟩:=Coming.come ((linkOf S h.src.toNat h.dst.toNat).all.length+1) 4 _ _ hkp hsl hdl (by omega) (fun a ha=>((hkp.links _ _ hsl hdl).kept a ha).2.2)
  have hnb:h.no=(linkOf s h.src.toNat h.dst.toNat).came+1->nextB (linkOf (setLink S h.src.toNat h.dst.toNat (keepS (linkOf S h.src.toNat h.dst.toNat) h.no)) h.src.toNat h.dst.toNat)=true:=fun e=>by
   rw[hls,if_pos ⟨rfl,rfl⟩,e,<-hlk]
   exact keepS_next _
  have hKy:(setLink S h.src.toNat h.dst.toNat (keepS (linkOf S h.src.toNat h.dst.toNat) h.no)).way=S.way:=rfl
  generalize setLink S h.src.toNat h.dst.toNat (keepS (linkOf S h.src.toNat h.dst.toNat) h.no)=K at *
  have hKl:∀a b,(linkOf K a b).all=(linkOf s a b).all/\(linkOf K a b).came=(linkOf s a b).came/\(linkOf K a b).known=(linkOf s a b).known:=fun a b=>by
   rw[hls]
   split
   ·rename_i q
    obtain⟨rfl,rfl⟩:=q
    rw[<-hlk]
    exact hks
   ·rw[hlk]
    exact⟨rfl,rfl,rfl⟩
  have hKt:total askN K=total askN s:=by
   have:=hSt askN
   omega
  generalize comeS ((linkOf S h.src.toNat h.dst.toNat).all.length+1) K h.src.toNat h.dst.toNat=C at *
  obtain⟨t,hy,htl,htk⟩:=hC.way
  have hlw:∀a b,linkOf (wayS C {msg0 with src:=h.dst,dst:=h.src,kind:=0,no:=(linkOf C h.src.toNat h.dst.toNat).came}) a b=linkOf C a b:=fun a b=>by unfold linkOf;rw[(wayS_rest _ _).1]
  have htw:∀f,total f (wayS C {msg0 with src:=h.dst,dst:=h.src,kind:=0,no:=(linkOf C h.src.toNat h.dst.toNat).came})=total f C:=fun f=>total_congr f (wayS_rest _ _).1
  have hwy:(wayS C {msg0 with src:=h.dst,dst:=h.src,kind:=0,no:=(linkOf C h.src.toNat h.dst.toNat).came}).way=if C.way.length < 60 then C.way++ [{msg0 with src:=h.dst,dst:=h.src,kind:=0,no:=(linkOf C h.src.toNat h.dst.toNat).came}]else C.way:=by
   unfold wayS
   split<;>rfl
  rw[hKy,hSy]at hy
  have hts:(t.map loadM).sum<=2*t.length:=by
   clear hy htl htk
   induction t with
   |nil=>simp
   |cons a t ih=>
    rw[List.map_cons,List.sum_cons,List.length_cons]
    have:loadM a<=2:=by unfold loadM;split<;>omega
    omega
  refine⟨⟨t++if C.way.length < 60 then [{msg0 with src:=h.dst,dst:=h.src,kind:=0,no:=(linkOf C h.src.toNat h.dst.toNat).came}]else [],?_,?_⟩,?_,?_,fun a b=> ?_,fun _ hc=> ?_,fun a b q=> ?_,fun a b=> ?_,fun _ e=> ?_,fun a b=> ?_,fun q=>absurd q h0⟩
  ·rw[hwy,hy]
   split<;>simp
  ·intro m hm hm0
   rcases List.mem_append.1 hm with e|e
   ·exact absurd hm0 (htk m e)
   ·split at e
    ·rw[List.mem_singleton.1 e,hlw]
     exact⟨rfl,rfl,rfl⟩
    ·simp at e
  ·unfold crowd
   rw[htw,hwy]
   have:C.way.length=(s.way.take k++s.way.drop (k+1)).length+t.length:=by rw[hy,List.length_append]
   split
   ·rw[List.length_append,List.length_singleton];omega
   ·omega
  ·unfold load
   rw[htw,hwy]
   have e2:loadM h=2:=if_neg h0
   have e3:(C.way.map loadM).sum=((s.way.take k++s.way.drop (k+1)).map loadM).sum+(t.map loadM).sum:=by rw[hy,List.map_append,List.sum_append]
   split
   ·rw[List.map_append,List.sum_append]
    have:([{msg0 with src:=h.dst,dst:=h.src,kind:=0,no:=(linkOf C h.src.toNat h.dst.toNat).came}].map loadM).sum=1:=rfl
    omega
   ·omega
  ·rw[hlw,<-(hKl a b).1]
   exact hC.all a b
  ·refine⟨{msg0 with src:=h.dst,dst:=h.src,kind:=0,no:=(linkOf C h.src.toNat h.dst.toNat).came},?_,rfl,rfl,rfl,by rw[hlw]⟩
   rw[hwy,if_pos]
   ·exact List.mem_append_right _ (List.mem_singleton.2 rfl)
   ·have:C.way.length=(s.way.take k++s.way.drop (k+1)).length+t.length:=by rw[hy,List.length_append]
    unfold crowd at hc
    omega
  ·rw[hlw,hC.came a b (fun e=>q ⟨h0,e.1,e.2⟩),(hKl a b).2.1]
  ·rw[hlw]
   by_cases q:a=h.src.toNat/\b=h.dst.toNat
   ·obtain⟨rfl,rfl⟩:=q
    rw[<-(hKl _ _).2.1]
    exact hC.up
   ·rw[hC.came a b q,(hKl a b).2.1]
    exact Int.le_refl _
  ·have:=hC2 (by omega) (hnb e)
   rw[hlw]
   rw[(hKl _ _).2.1]at this
   omega
  ·rw[hlw,hC.known,(hKl a b).2.2]
   exact⟨Int.le_refl _,.inl rfl⟩
structure Form(s:RunS):Prop where
 llen:s.links.length=s.W.length
 lrow:∀ls∈s.links,ls.length=s.W.length
 came:∀i j,i < s.W.length->j < s.W.length->0<=(linkOf s i j).came/\(linkOf s i j).came<=(linkOf s i j).all.length
theorem Fine.form{N:Nat}{s:RunS}(h:Fine N s):Form s:=⟨h.llen,h.lrow,fun i j hi hj=>(h.links i j hi hj).came⟩
theorem Form.rework{s s':RunS}(h:Form s)(hl:s'.links=s.links)(hw:s'.W.length=s.W.length):Form s':=
 ⟨by rw[hl,hw];exact h.llen,by rw[hl,hw];exact h.lrow,fun i j hi hj=>by rw[hw]at hi hj;have:=h.came i j hi hj;unfold linkOf at this ⊢;rw[hl];exact this⟩
theorem total_form(f:MsgS->Nat){s:RunS}(h:Form s)(m:MsgS)(hi:m.src.toNat < s.W.length)(hj:m.dst.toNat < s.W.length):total f (sendS s m)=total f s+f {m with no:=(linkOf s m.src.toNat m.dst.toNat).all.length+1}:=by
 have a:=total_set f {linkOf s m.src.toNat m.dst.toNat with all:=(linkOf s m.src.toNat m.dst.toNat).all++ [{m with no:=(linkOf s m.src.toNat m.dst.toNat).all.length+1}]} h.llen h.lrow hi hj
 have b:total f (sendS s m)=total f (setLink s m.src.toNat m.dst.toNat {linkOf s m.src.toNat m.dst.toNat with all:=(linkOf s m.src.toNat m.dst.toNat).all++ [{m with no:=(linkOf s m.src.toNat m.dst.toNat).all.length+1}]}):=by
  refine total_congr f ?_
  unfold sendS wayS linkOf setLink
  dsimp only
  split<;>split<;>rfl
 have hc:=h.came _ _ hi hj
 have c:linkSum f {linkOf s m.src.toNat m.dst.toNat with all:=(linkOf s m.src.toNat m.dst.toNat).all++ [{m with no:=(linkOf s m.src.toNat m.dst.toNat).all.length+1}]}=linkSum f (linkOf s m.src.toNat m.dst.toNat)+f {m with no:=(linkOf s m.src.toNat m.dst.toNat).all.length+1}:=by
  unfold linkSum
  dsimp only
  rw[List.drop_append_of_le_length (by omega),List.map_append,List.sum_append]
  simp
 omega
structure Sending(c a:Nat)(s s':RunS):Prop where
 way:∃t,s'.way=s.way++t/\t.length<=c/\∀m∈t,m.kind≠0
 ask:total askN s'<=total askN s+a
 all:∀a b,(linkOf s a b).all <+: (linkOf s' a b).all
 came:∀a b,(linkOf s' a b).came=(linkOf s a b).came
 known:∀a b,(linkOf s' a b).known=(linkOf s a b).known
theorem Sending.refl(s:RunS):Sending 0 0 s s:=⟨⟨[],by simp,by simp,by simp⟩,Nat.le_refl _,fun _ _=>List.prefix_refl _,fun _ _=>rfl,fun _ _=>rfl⟩
theorem Sending.trans{c a c' a':Nat}{x y z:RunS}(h:Sending c a x y)(k:Sending c' a' y z):Sending (c+c') (a+a') x z:=by
 obtain⟨t1,e1,l1,n1⟩:=h.way
 obtain⟨t2,e2,l2,n2⟩:=k.way
 refine⟨⟨t1++t2,by rw[e2,e1,List.append_assoc],by rw[List.length_append];omega,fun m hm=> ?_⟩,by have:=h.ask;have:=k.ask;omega,fun p q=>(h.all p q).trans (k.all p q),fun p q=>(k.came p q).trans (h.came p q),fun p q=>(k.known p q).trans (h.known p q)⟩
 rcases List.mem_append.1 hm with e|e
 ·exact n1 m e
 ·exact n2 m e
theorem Sending.more{c a c' a':Nat}{x y:RunS}(h:Sending c a x y)(hc:c<=c')(ha:a<=a'):Sending c' a' x y:=by
 obtain⟨t,e,l,n⟩:=h.way
 exact⟨⟨t,e,by omega,n⟩,by have:=h.ask;omega,h.all,h.came,h.known⟩
theorem Sending.of{s s':RunS}(hl:s'.links=s.links)(hw:s'.way=s.way):Sending 0 0 s s':=by
 have e:∀a b,linkOf s' a b=linkOf s a b:=fun a b=>by unfold linkOf;rw[hl]
 exact⟨⟨[],by rw[hw];simp,by simp,by simp⟩,by rw[total_congr askN hl];omega,fun a b=>by rw[e];exact List.prefix_refl _,fun a b=>by rw[e],fun a b=>by rw[e]⟩
theorem Sending.send{s:RunS}(h:Form s){m:MsgS}(hk:m.kind≠0)(hi:m.src.toNat < s.W.length)(hj:m.dst.toNat < s.W.length):Sending 1 (askN m) s (sendS s m):=by
 have hq:=linkOf_sends s m h.llen h.lrow hi hj
 refine⟨⟨if s.way.length < 60 then [{m with no:=(linkOf s m.src.toNat m.dst.toNat).all.length+1}]else [],?_,?_,?_⟩,?_,fun a b=> ?_,fun a b=> ?_,fun a b=> ?_⟩
 ·rw[sendS_way]
  split<;>simp
 ·split<;>simp
 ·split
  ·intro x hx
   rw[List.mem_singleton.1 hx]
   exact hk
  ·simp
 ·rw[total_form askN h m hi hj]
  exact Nat.le_refl _
 ·rw[hq]
  split
  ·exact List.prefix_append _ _
  ·exact List.prefix_refl _
 ·rw[hq]
  split<;>rfl
 ·rw[hq]
  split<;>rfl
theorem Sending.by{c a:Nat}{s s':RunS}(hl:s'.links=s.links)(hw:s'.way=s.way):Sending c a s s':=(Sending.of hl hw).more (Nat.zero_le _) (Nat.zero_le _)
theorem Sending.self{c a:Nat}(s:RunS):Sending c a s s:=(Sending.refl s).more (Nat.zero_le _) (Nat.zero_le _)
theorem Sending.send2{c a:Nat}{s s1:RunS}(h:Form s)(hl:s1.links=s.links)(hw:s1.way=s.way)(hW:s1.W.length=s.W.length){m:MsgS}(hk:m.kind≠0)(hi:m.src.toNat < s.W.length)(hj:m.dst.toNat < s.W.length)(hc:1<=c)(ha:askN m<=a):Sending c a s (sendS s1 m):=
 ((Sending.of hl hw).trans (Sending.send (h.rework hl hW) hk (by rw[hW];exact hi) (by rw[hW];exact hj))).more (by omega) (by omega)
theorem Sending.waves{n:Int}:∀(L:List Nat) (N:Nat) (s:RunS),Fine N s->s.answers≠ []->(∀k∈L,1<=k/\k < s.W.length)->Sending L.length L.length s (L.foldl (waveS n) s):=by
 intro L
 induction L with
 |nil=>intro N s _ _ _;exact .refl s
 |cons k r ih=>
  intro N s h ha hL
  have hk:=hL k (List.mem_cons_self ..)
  obtain⟨e1,e2,-⟩:=sendS_rest s {msg0 with src:=0,dst:=k,kind:=6,round:=n}
  have hs:Fine (N+1) (waveS n s k):=h.waves [k] _ _ ha (fun a b=>by rw[List.mem_singleton.1 b];exact hk)
  have h1:Sending 1 1 s (waveS n s k):=Sending.send h.form (m:={msg0 with src:=0,dst:=k,kind:=6,round:=n}) (by show(6:Int)≠0;decide) (by show(0:Int).toNat < _;simp;omega) (by show(k:Int).toNat < _;simp;omega)
  have h2:=ih (N+1) (waveS n s k) hs (by show(sendS _ _).answers≠ [];rw[e1];exact ha) (fun a b=>by show 1<=a/\a < (sendS _ _).W.length;rw[e2];exact hL a (List.mem_cons_of_mem _ b))
  rw[List.foldl_cons]
  exact(h1.trans h2).more (by simp;omega) (by simp;omega)
section
variable {N:Nat} {s:RunS}
theorem Sending.work(h:Fine N s)(i:Int):Sending 1 0 s (workS s i).1:=by
 unfold workS
 split
 ·exact .self s
 ·rename_i hw
  obtain⟨hlo,hlt⟩:=workerE_range hw
  obtain⟨hil,hie⟩:=h.nat hlo hlt
  split
  ·exact .self s
  ·split
   ·exact .self s
   ·split
    ·apply Sending.by<;>rfl
    ·dsimp only
     split
     ·apply Sending.by<;>rfl
     ·have h2:=h.two
      have hlen:=h.len
      refine Sending.send2 h.form ?_ ?_ ?_ ?_ ?_ ?_ (Nat.le_refl _) ?_
      ·rfl
      ·rfl
      ·simp
      ·show(4:Int)≠0
       decide
      ·exact hil
      ·show(0:Int).toNat < s.W.length
       simp
       omega
      ·simp[askN]
theorem Sending.steal(h:Fine N s)(i v:Int):Sending 1 1 s (stealS s i v).1:=by
 unfold stealS
 split
 ·exact .self s
 ·rename_i hw
  obtain⟨hlo,hlt⟩:=workerE_range hw
  obtain⟨hil,hie⟩:=h.nat hlo hlt
  split
  ·exact .self s
  ·rename_i hw2
   obtain⟨hlo2,hlt2⟩:=workerE_range hw2
   obtain⟨hil2,hie2⟩:=h.nat hlo2 hlt2
   split
   ·exact .self s
   ·split
    ·exact .self s
    ·rename_i x hx
     split
     ·exact .self s
     ·refine Sending.send2 h.form ?_ ?_ ?_ ?_ ?_ ?_ (Nat.le_refl _) ?_
      ·rfl
      ·rfl
      ·simp
      ·show(1:Int)≠0
       decide
      ·exact hil
      ·exact hil2
      ·simp[askN]
theorem Sending.pass(h:Fine N s)(i:Int):Sending 1 0 s (passS s i).1:=by
 unfold passS
 split
 ·exact .self s
 ·rename_i hw
  obtain⟨hlo,hlt⟩:=workerE_range hw
  obtain⟨hil,hie⟩:=h.nat hlo hlt
  split
  ·exact .self s
  ·rename_i x hx
   split
   ·exact .self s
   ·dsimp only
    refine Sending.more (c:=1+0) (a:=0+0) (Sending.trans (y:=sendS s {msg0 with src:=i,dst:=i - 1,kind:=5,count:=x.token.count+x.sent - x.came,black:=x.token.black||x.black}) (Sending.more (Sending.send h.form ?_ ?_ ?_) (Nat.le_refl _) ?_) (Sending.by ?_ ?_)) (by omega) (by omega)
    ·show(5:Int)≠0
     decide
    ·exact hil
    ·show(i - 1).toNat < s.W.length
     omega
    ·simp[askN]
    ·rfl
    ·rfl
theorem Sending.check(h:Fine N s)(hN:N<=1000000000):Sending 4 4 s (checkS s).1:=by
 have h2:=h.two
 have h5:=h.five
 have hlen:=h.len
 unfold checkS
 split
 ·exact .self s
 ·split
  ·unfold ringS
   split
   ·exact .self s
   ·rename_i x hx
    split
    ·exact .self s
    ·split
     ·apply Sending.by<;>rfl
     ·refine Sending.send2 h.form ?_ ?_ ?_ ?_ ?_ ?_ (by omega) ?_
      ·rfl
      ·rfl
      ·simp
      ·show(5:Int)≠0
       decide
      ·show(0:Int).toNat < s.W.length
       simp
       omega
      ·show(s.workers - 1).toNat < s.W.length
       omega
      ·simp[askN]
  ·unfold wavesS
   split
   ·exact .self s
   ·rename_i x hx
    have hxo:=h.works x (List.mem_of_getElem? hx)
    have hsn:=hxo.sent
    have hcn:=hxo.came
    split
    ·exact .self s
    ·split
     ·apply Sending.by<;>rfl
     ·have h3:Fine (N+1) {s with answers:=s.answers++ [⟨0,0,0,true⟩]}:=h.reans (by have:=h.alen;simp;omega) (by simp) (fun a ha=>by
       rcases List.mem_append.1 ha with e|e
       ·exact(h.ans a e).more (Nat.le_succ N)
       ·rw[List.mem_singleton.1 e];exact⟨by dsimp only;omega,by dsimp only;omega,by dsimp only;omega⟩) (Nat.le_succ N)
      have h4:=h3.noted (a:=x.sent) (b:=x.came) true (by omega) (by omega)
      have e:(notedS {s with answers:=s.answers++ [⟨0,0,0,true⟩]} x.sent x.came true).links=s.links/\(notedS {s with answers:=s.answers++ [⟨0,0,0,true⟩]} x.sent x.came true).way=s.way/\(notedS {s with answers:=s.answers++ [⟨0,0,0,true⟩]} x.sent x.came true).W=s.W/\(notedS {s with answers:=s.answers++ [⟨0,0,0,true⟩]} x.sent x.came true).answers≠ []:=by
       unfold notedS
       split
       ·rename_i q
        simp at q
       ·exact⟨rfl,rfl,rfl,by simp⟩
      refine((Sending.of e.1 e.2.1).trans (Sending.waves _ _ _ h4 e.2.2.2 (fun k hk=> ?_))).more ?_ ?_
      ·have:=List.mem_range'_1.1 hk
       rw[e.2.2.1]
       omega
      ·simp;omega
      ·simp;omega
theorem again_sending:∀(L:List LinkS),(∀l∈L,∀m∈l.all,m.kind≠0)->(∀l∈L,0<=l.known)->∀s:RunS,Sending L.length 0 s (L.foldl againS s):=by
 intro L
 induction L with
 |nil=>intro _ _ s;exact .refl s
 |cons l L ih=>
  intro hL hn s
  rw[List.foldl_cons]
  have h2:=ih (fun l' h'=>hL l' (List.mem_cons_of_mem _ h')) (fun l' h'=>hn l' (List.mem_cons_of_mem _ h')) (againS s l)
  have h1:Sending 1 0 s (againS s l):=by
   unfold againS
   split
   ·rename_i hlt
    have h0:=hn l (List.mem_cons_self ..)
    have hg:l.all[l.known.toNat]?= some (l.all[l.known.toNat]'(by omega)):=List.getElem?_eq_getElem _
    rw[hg,Option.getD_some]
    have hk:=hL l (List.mem_cons_self ..) _ (List.mem_of_getElem? hg)
    have e:=wayS_rest s (l.all[l.known.toNat]'(by omega))
    have hlk:∀a b,linkOf (wayS s (l.all[l.known.toNat]'(by omega))) a b=linkOf s a b:=fun a b=>by unfold linkOf;rw[e.1]
    refine⟨⟨if s.way.length < 60 then [l.all[l.known.toNat]'(by omega)]else [],?_,?_,?_⟩,by rw[total_congr askN e.1];omega,fun a b=>by rw[hlk];exact List.prefix_refl _,fun a b=>by rw[hlk],fun a b=>by rw[hlk]⟩
    ·unfold wayS
     split<;>simp
    ·split<;>simp
    ·split
     ·intro m hm
      rw[List.mem_singleton.1 hm]
      exact hk
     ·simp
   ·exact .self s
  exact(h1.trans h2).more (by simp;omega) (by omega)
theorem row_mem{i:Nat}{l:LinkS}(h:l∈s.links[i]?.getD []):∃j,l=linkOf s i j/\j < (s.links[i]?.getD []).length:=by
 obtain⟨j,hj,e⟩:=List.mem_iff_getElem.1 h
 refine⟨j,?_,hj⟩
 unfold linkOf
 rw[List.getElem?_eq_getElem hj,Option.getD_some,e]
theorem Sending.tick(h:Fine N s)(i:Int):Sending 5 0 s (tickS s i).1:=by
 unfold tickS
 split
 ·exact .self s
 ·rename_i hw
  obtain⟨hlo,hlt⟩:=workerE_range hw
  obtain⟨hil,hie⟩:=h.nat hlo hlt
  have h5:=h.five
  have hlen:=h.len
  have hg:s.links[i.toNat]?= some (s.links[i.toNat]'(by rw[h.llen];exact hil)):=List.getElem?_eq_getElem _
  have hrow:(s.links[i.toNat]?.getD []).length=s.W.length:=by rw[hg,Option.getD_some];exact h.lrow _ (List.mem_of_getElem? hg)
  have hok:∀l∈s.links[i.toNat]?.getD [],∃j,l=linkOf s i.toNat j/\LinkOK s.ks (s.answers≠ []) N i.toNat j l:=fun l hl=>by
   obtain⟨j,e,hj⟩:=row_mem hl
   exact⟨j,e,by rw[e];exact h.links _ _ hil (by omega)⟩
  refine(again_sending _ (fun l hl m hm=> ?_) (fun l hl=> ?_) s).more (by omega) (Nat.le_refl _)
  ·obtain⟨j,e,ho⟩:=hok l hl
   obtain⟨n,hn⟩:=List.mem_iff_getElem?.1 hm
   have:=(ho.msgs n m hn).kind
   omega
  ·obtain⟨j,e,ho⟩:=hok l hl
   exact ho.known.1
end
structure Told(s:RunS):Prop where
 known:∀a b,(linkOf s a b).known<=(linkOf s a b).came
 acks:∀m∈s.way,m.kind=0->m.no<=(linkOf s m.dst.toNat m.src.toNat).came
section
variable {N:Nat} {s:RunS}
theorem Told.sending{c a:Nat}{s':RunS}(h:Told s)(k:Sending c a s s'):Told s':=by
 obtain⟨t,e,-,n⟩:=k.way
 refine⟨fun a b=>by rw[k.known,k.came];exact h.known a b,fun m hm h0=> ?_⟩
 rw[e]at hm
 rw[k.came]
 rcases List.mem_append.1 hm with q|q
 ·exact h.acks m q h0
 ·exact absurd h0 (n m q)
theorem Told.same{s':RunS}(h:Told s)(hl:s'.links=s.links)(hw:∀m∈s'.way,m∈s.way):Told s':=by
 have e:∀a b,linkOf s' a b=linkOf s a b:=fun a b=>by unfold linkOf;rw[hl]
 exact⟨fun a b=>by rw[e];exact h.known a b,fun m hm h0=>by rw[e];exact h.acks m (hw m hm) h0⟩
theorem Told.work(h:Told s)(hf:Fine N s)(i:Int):Told (workS s i).1:=h.sending (.work hf i)
theorem Told.steal(h:Told s)(hf:Fine N s)(i v:Int):Told (stealS s i v).1:=h.sending (.steal hf i v)
theorem Told.pass(h:Told s)(hf:Fine N s)(i:Int):Told (passS s i).1:=h.sending (.pass hf i)
theorem Told.check(h:Told s)(hf:Fine N s)(hN:N<=1000000000):Told (checkS s).1:=h.sending (.check hf hN)
theorem Told.tick(h:Told s)(hf:Fine N s)(i:Int):Told (tickS s i).1:=h.sending (.tick hf i)
theorem Told.drop(h:Told s)(k:Int):Told (dropS s k).1:=by
 unfold dropS
 split
 ·exact h
 ·refine h.same rfl (fun m hm=> ?_)
  rcases List.mem_append.1 hm with e|e
  ·exact List.mem_of_mem_take e
  ·exact List.mem_of_mem_drop e
theorem Told.twice(h:Told s)(k:Int):Told (twiceS s k).1:=by
 unfold twiceS
 split
 ·exact h
 ·rename_i hme
  obtain⟨h0,h1⟩:=messageE_range hme
  have hg:s.way[k.toNat]?= some (s.way[k.toNat]'(by omega)):=List.getElem?_eq_getElem _
  rw[hg]
  dsimp only[Option.getD_some]
  refine h.same (wayS_rest _ _).1 (fun m hm=> ?_)
  unfold wayS at hm
  split at hm
  ·rcases List.mem_append.1 hm with e|e
   ·exact e
   ·rw[List.mem_singleton.1 e]
    exact List.mem_of_getElem? hg
  ·exact hm
theorem Told.arrived{s':RunS}{m:MsgS}{r:List MsgS}(h:Told s)(k:Arrived m r s s')(hm:m∈s.way)(hr:∀x∈r,x∈s.way):Told s':=by
 refine⟨fun a b=> ?_,fun x hx h0=> ?_⟩
 ·rcases (k.known a b).2 with e|⟨e0,rfl,rfl,e⟩
  ·rw[e]
   exact Int.le_trans (h.known a b) (k.up a b)
  ·rw[e]
   exact Int.le_trans (h.acks m hm e0) (k.up _ _)
 ·obtain⟨t,e,ht⟩:=k.way
  rw[e]at hx
  rcases List.mem_append.1 hx with q|q
  ·exact Int.le_trans (h.acks x (hr x q) h0) (k.up _ _)
  ·obtain⟨e1,e2,e3⟩:=ht x q h0
   rw[e1,e2,e3]
   exact Int.le_refl _
theorem Told.deliver(h:Told s)(hf:Fine N s)(hN:N+5<=90000000)(k:Int):Told (deliverS s k).1:=by
 by_cases hme:messageE s k=0
 ·obtain⟨h0,h1⟩:=messageE_range (i:=k) (s:=s) (by omega)
  have hg:s.way[k.toNat]?= some (s.way[k.toNat]'(by omega)):=List.getElem?_eq_getElem _
  have e:k=(k.toNat:Int):=by omega
  rw[e]at hme ⊢
  refine h.arrived (deliver_arrives hf hN hg hme).2 (List.mem_of_getElem? hg) (fun x hx=> ?_)
  rcases List.mem_append.1 hx with q|q
  ·exact List.mem_of_mem_take q
  ·exact List.mem_of_mem_drop q
 ·unfold deliverS
  rw[if_pos hme]
  exact h
theorem Told.new(workers room mode kind arg:Int)(ks:List KindS):Told (newS workers room mode ks kind arg):=by
 have hL:∀a b,linkOf (newS workers room mode ks kind arg) a b=link0:=fun a b=>by
  unfold linkOf newS
  dsimp only
  rw[List.getElem?_replicate]
  split
  ·rw[Option.getD_some,List.getElem?_replicate]
   split<;>rfl
  ·rfl
 refine⟨fun a b=>by rw[hL];exact Int.le_refl _,fun m hm=> ?_⟩
 cases hm
end
def drainS:Nat->RunS->RunS
 |0,s=>s
 |n+1,s=>if(deliverS s 0).2=0 then drainS n (deliverS s 0).1 else s
theorem startE_zero{s:RunS}:startE s=0 ↔ s.done=false/\s.over=false:=by
 unfold startE
 split
 ·rename_i h
  simp[h]
 ·rename_i h
  split
  ·rename_i h2
   simp[h2]
  ·rename_i h2
   simp[h,h2]
theorem messageE_zero{s:RunS}{k:Nat}(h:startE s=0)(hk:k < s.way.length):messageE s (k:Int)=0:=by
 unfold messageE
 rw[if_neg (by omega)]
 exact h
theorem comeS_over(i j:Nat):∀(f:Nat) (s:RunS),(comeS f s i j).over=s.over:=by
 have hs:∀(s:RunS) (m:MsgS),(sendS s m).over=s.over:=fun s m=>by
  unfold sendS wayS
  dsimp only
  split<;>split<;>rfl
 have hc:∀(s:RunS) (m:MsgS),(cameS s m).over=s.over:=fun s m=>by
  unfold cameS notedS
  dsimp only
  repeat' split
  all_goals first|rfl|exact hs _ _
 intro f
 induction f with
 |zero=>exact fun s=>rfl
 |succ f ih=>
  intro s
  unfold comeS
  split
  ·rw[ih];exact hc _ _
  ·rfl
theorem wayS_over(s:RunS)(m:MsgS):(wayS s m).over=s.over:=by
 unfold wayS
 split<;>rfl
theorem deliverS_over(s:RunS)(k:Int):(deliverS s k).1.over=s.over:=by
 unfold deliverS
 split
 ·rfl
 ·dsimp only
  split
  ·split<;>rfl
  ·rw[wayS_over,comeS_over];rfl
theorem deliver_start{s:RunS}(h:startE s=0)(k:Int):startE (deliverS s k).1=0:=by
 rw[startE_zero]at h ⊢
 rw[deliverS_done,deliverS_over]
 exact h
theorem deliver_none{s:RunS}(h:s.way=[]):(deliverS s 0).2≠0:=by
 have hm:messageE s 0≠0:=by
  unfold messageE
  by_cases h0:startE s=0
  ·rw[if_pos ⟨h0,by rw[h];simp⟩]
   decide
  ·rw[if_neg (fun q=>h0 q.1)]
   exact h0
 unfold deliverS
 rw[if_pos hm]
 exact hm
theorem drain_ind{P:RunS->Prop}(hP:∀(N:Nat) (s:RunS) (m:MsgS) (r:List MsgS),Fine N s->N+5<=90000000->s.way=m :: r->startE s=0->Arrived m r s (deliverS s 0).1->P s->P (deliverS s 0).1):∀(n N:Nat) (s:RunS),Fine N s->N+5*n<=90000000->startE s=0->P s->P (drainS n s)/\Fine (N+5*n) (drainS n s)/\startE (drainS n s)=0/\(load s < n->(drainS n s).way=[]):=by
 intro n
 induction n with
 |zero=>intro N s h hN h0 hp;exact⟨hp,h,h0,fun q=>by omega⟩
 |succ n ih=>
  intro N s h hN h0 hp
  unfold drainS
  cases hw:s.way with
  |nil=>
   rw[if_neg (deliver_none hw)]
   exact⟨hp,h.more (by omega),h0,fun _=>hw⟩
  |cons m r=>
   have hk:s.way[0]?= some m:=by rw[hw];rfl
   obtain⟨e,ha⟩:=deliver_arrives h (by omega) hk (messageE_zero h0 (by rw[hw];simp))
   have ha:Arrived m r s (deliverS s 0).1:=by simpa[hw]using ha
   have e:(deliverS s 0).2=0:=e
   rw[if_pos e]
   obtain⟨q1,q2,q3,q4⟩:=ih (N+5) (deliverS s 0).1 (h.deliver (by omega) 0) (by omega) (deliver_start h0 0) (hP N s m r h (by omega) hw h0 ha hp)
   exact⟨q1,q2.more (by omega),q3,fun q=>q4 (by have:=ha.less;omega)⟩
def Acked(s:RunS)(i j:Nat):Prop:=(linkOf s i j).known=(linkOf s i j).came\/(∃m∈s.way,m.kind=0/\m.src=j/\m.dst=i/\m.no=(linkOf s i j).came)\/(∃m∈s.way,m.kind≠0/\m.src=i/\m.dst=j)
theorem Acked.arrived{N:Nat}{s s':RunS}{m:MsgS}{r:List MsgS}(hF:Fine N s)(ht':Told s')(hw:s.way=m :: r)(k:Arrived m r s s')(hc:crowd s<=60){i j:Nat}(h:Acked s i j):Acked s' i j:=by
 have hm:=hF.ways m (by rw[hw];exact List.mem_cons_self ..)
 obtain⟨hsl,hse⟩:=hF.nat hm.src.1 hm.src.2
 obtain⟨hdl,hde⟩:=hF.nat hm.dst.1 hm.dst.2
 obtain⟨t,e,-⟩:=k.way
 by_cases q:m.kind≠0/\i=m.src.toNat/\j=m.dst.toNat
 ·obtain⟨q0,rfl,rfl⟩:=q
  obtain⟨a,ha,h0,h1,h2,h3⟩:=k.ack q0 hc
  exact .inr (.inl ⟨a,ha,h0,by rw[h1];exact hde,by rw[h2];exact hse,h3⟩)
 ·have hcm:=k.came i j q
  have hup:=(k.known i j).1
  have hle:=ht'.known i j
  rcases h with h|⟨a,ha,h0,h1,h2,h3⟩|⟨a,ha,h0,h1,h2⟩
  ·exact .inl (by omega)
  ·rw[hw]at ha
   rcases List.mem_cons.1 ha with rfl|ha
   ·have:=k.told h0
    rw[h1,h2]at this
    simp only[Int.toNat_natCast]at this
    exact .inl (by omega)
   ·exact .inr (.inl ⟨a,by rw[e];exact List.mem_append_left _ ha,h0,h1,h2,by rw[h3,hcm]⟩)
  ·rw[hw]at ha
   rcases List.mem_cons.1 ha with rfl|ha
   ·exact absurd ⟨h0,by rw[h1];rfl,by rw[h2];rfl⟩ q
   ·exact .inr (.inr ⟨a,by rw[e];exact List.mem_append_left _ ha,h0,h1,h2⟩)
def Going(s:RunS)(i j:Nat)(c:Int):Prop:=c<=(linkOf s i j).came\/(c=(linkOf s i j).came+1/\∃m∈s.way,m.kind≠0/\m.src=i/\m.dst=j/\m.no=c)
theorem Going.arrived{s s':RunS}{m:MsgS}{r:List MsgS}(hw:s.way=m :: r)(k:Arrived m r s s'){i j:Nat}{c:Int}(h:Going s i j c):Going s' i j c:=by
 obtain⟨t,e,-⟩:=k.way
 have hup:=k.up i j
 rcases h with h|⟨hc,a,ha,h0,h1,h2,h3⟩
 ·exact .inl (by omega)
 ·rw[hw]at ha
  rcases List.mem_cons.1 ha with rfl|ha
  ·have:=k.next h0 (by rw[h1,h2];simp only[Int.toNat_natCast];omega)
   rw[h1,h2]at this
   simp only[Int.toNat_natCast]at this
   exact .inl (by omega)
  ·by_cases q:c<=(linkOf s' i j).came
   ·exact .inl q
   ·exact .inr ⟨by omega,a,by rw[e];exact List.mem_append_left _ ha,h0,h1,h2,h3⟩
structure Still(s:RunS):Prop where
 way:s.way=[]
 known:∀i j,(linkOf s i j).known=(linkOf s i j).came
theorem drain_still{n N:Nat}{s:RunS}(hF:Fine N s)(hN:N+5*n<=90000000)(h0:startE s=0)(ht:Told s)(hc:crowd s<=60)(ha:∀i j,Acked s i j)(hn:load s < n):Still (drainS n s)/\Told (drainS n s):=by
 obtain⟨⟨h1,h2,h3⟩,-,-,h4⟩:=drain_ind (P:=fun s=>Told s/\crowd s<=60/\∀i j,Acked s i j) (fun N s m r hF hN hw h0 k hp=>by
  have ht':=hp.1.deliver hF hN 0
  refine⟨ht',Nat.le_trans k.thin hp.2.1,fun i j=>Acked.arrived hF ht' hw k hp.2.1 (hp.2.2 i j)⟩) n N s hF hN h0 ⟨ht,hc,ha⟩
 refine⟨⟨h4 hn,fun i j=> ?_⟩,h1⟩
 have e:=h4 hn
 rcases h3 i j with h|⟨m,hm,-⟩|⟨m,hm,-⟩
 ·exact h
 ·rw[e]at hm;cases hm
 ·rw[e]at hm;cases hm
theorem drain_going{n N:Nat}{s:RunS}(hF:Fine N s)(hN:N+5*n<=90000000)(h0:startE s=0){i j:Nat}{c:Int}(ha:Going s i j c)(hn:load s < n):c<=(linkOf (drainS n s) i j).came:=by
 obtain⟨h1,-,-,h4⟩:=drain_ind (P:=fun s=>Going s i j c) (fun N s m r hF hN hw h0 k hp=>Going.arrived hw k hp) n N s hF hN h0 ha
 rcases h1 with h|⟨-,m,hm,-⟩
 ·exact h
 ·rw[h4 hn]at hm;cases hm
theorem crowd_load(s:RunS):load s<=2*crowd s:=by
 unfold load crowd
 have:∀l:List MsgS,(l.map loadM).sum<=2*l.length:=fun l=>by
  induction l with
  |nil=>simp
  |cons a t ih=>
   rw[List.map_cons,List.sum_cons,List.length_cons]
   have:loadM a<=2:=by unfold loadM;split<;>omega
   omega
 have:=this s.way
 omega
end Go.Proofs.YtfanaanofjhlkaaGreatDoor
