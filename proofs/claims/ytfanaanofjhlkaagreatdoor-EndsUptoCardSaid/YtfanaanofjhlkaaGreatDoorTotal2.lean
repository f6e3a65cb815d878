import Derived.Test.YtfanaanofjhlkaaGreatDoorRefCheck
import Derived.Test.YtfanaanofjhlkaaGreatDoorRaw
import Derived.Test.YtfanaanofjhlkaaGreatDoorXYoung
import Derived.Test.YtfanaanofjhlkaaGreatDoorRefPass
namespace Go.Proofs.YtfanaanofjhlkaaGreatDoor
open Go Go.RowKit
structure CameReady(s:RunS)(m:MsgS):Prop where
 shape:Shaped s
 small:∃N,N<=90000000/\Small N s
 src:0<=m.src/\m.src < s.workers
 dst:0<=m.dst/\m.dst < s.workers
 few:∀x∈s.W,x.tasks.length<=100000000
 vals:s.values.length<=90000000
 kind:1<=m.kind/\m.kind<=7
 told:m.kind=7->∃L a,s.answers=L++ [a]/\L.length<=100000000/\(-1000000000000000<=a.many/\a.many<=1000000000000000)/\(-1000000000000000000<=a.sent+m.sent/\a.sent+m.sent<=1000000000000000000)/\(-1000000000000000000<=a.came+m.came/\a.came+m.came<=1000000000000000000)
def linkOf(s:RunS)(i j:Nat):LinkS:=(s.links[i]?.getD [])[j]?.getD link0
def setLink(s:RunS)(i j:Nat)(l:LinkS):RunS:={s with links:=s.links.set i ((s.links[i]?.getD []).set j l)}
def stepS(s:RunS)(i j:Nat):RunS:=cameS (setLink s i j {linkOf s i j with came:=(linkOf s i j).came+1}) ((linkOf s i j).all[(linkOf s i j).came.toNat]?.getD msg0)
def comeS:Nat->RunS->Nat->Nat->RunS
 |0,s,_,_=>s
 |f+1,s,i,j=>if nextB (linkOf s i j)=true then comeS f (stepS s i j) i j else s
structure LinkFine(s:RunS)(i j:Nat):Prop where
 shape:Shaped s
 few:(linkOf s i j).kept.length<=1000000000
 came:0<=(linkOf s i j).came/\(linkOf s i j).came<=1000000000000
def ComeOK:Nat->RunS->Nat->Nat->Prop
 |0,s,i,j=>LinkFine s i j/\nextB (linkOf s i j)=false
 |f+1,s,i,j=>LinkFine s i j/\(nextB (linkOf s i j)=true->(linkOf s i j).came < ((linkOf s i j).all.length:Int)/\CameReady (setLink s i j {linkOf s i j with came:=(linkOf s i j).came+1}) ((linkOf s i j).all[(linkOf s i j).came.toNat]?.getD msg0)/\ComeOK f (stepS s i j) i j)
def keepS(l:LinkS)(n:Int):LinkS:=if l.came < n/\n<=l.came+4/\l.kept.any (·== n)=false then{l with kept:=l.kept++ [n]}else l
def deliverS(s:RunS)(k:Int):RunS×Int:=
 if messageE s k≠0 then(s,messageE s k)else
  let m:=s.way[k.toNat]?.getD msg0
  let s1:={s with way:=s.way.take k.toNat++s.way.drop (k.toNat+1)}
  if m.kind=0 then
   (if(linkOf s1 m.dst.toNat m.src.toNat).known < m.no then setLink s1 m.dst.toNat m.src.toNat {linkOf s1 m.dst.toNat m.src.toNat with known:=m.no}else s1,0)
  else
   let i:=m.src.toNat
   let j:=m.dst.toNat
   let s2:=setLink s1 i j (keepS (linkOf s1 i j) m.no)
   let s3:=comeS ((linkOf s1 i j).all.length+1) s2 i j
   (wayS s3 {msg0 with src:=m.dst,dst:=m.src,kind:=0,no:=(linkOf s3 i j).came},0)
theorem childrenFrom_good{ks:List KindS}{kind arg:Int}(hp:progB ks kind arg=true){t:TaskS}(hG:Good ks t/\t.arg<=12):∀c∈children ks t,Good ks c/\c.arg<=12:=by
 intro c hc
 obtain⟨⟨h0,h1,h2,h3⟩,h4⟩:=hG
 obtain⟨j,cK,hj,hcc,hka,hl3,hkids,-,-⟩:=kind_facts hp h0 h1
 unfold children at hc
 rw[hka]at hc
 obtain⟨d,hd,m,rfl,hle⟩:=childrenFrom_mem hc
 obtain⟨g1,g2,g3,g4⟩:=hkids d hd
 refine⟨⟨g3,g4,?_,?_⟩,?_⟩
 ·dsimp only;omega
 ·dsimp only
  rw[kidId_size]
  omega
 ·dsimp only;omega
structure MsgOK(ks:List KindS)(ans:Prop)(N i j n:Nat)(m:MsgS):Prop where
 src:m.src=i
 dst:m.dst=j
 ne:i≠j
 no:m.no=n+1
 kind:1<=m.kind/\m.kind<=7
 task:m.kind=2->Good ks m.t/\m.t.arg<=12
 told:m.kind=6\/m.kind=7->ans
 wave:m.kind=6->i=0
 rep:m.kind=7->j=0
 nums:0<=m.sent/\m.sent<=1000000000/\0<=m.came/\m.came<=1000000000/\ -((N:Int)*1000000000)<=m.count/\m.count<=(N:Int)*1000000000
structure LinkOK(ks:List KindS)(ans:Prop)(N i j:Nat)(l:LinkS):Prop where
 msgs:∀n m,l.all[n]?= some m->MsgOK ks ans N i j n m
 all:l.all.length<=N
 known:0<=l.known/\l.known<=l.all.length
 came:0<=l.came/\l.came<=l.all.length
 kept:∀n∈l.kept,1<=n/\n<=l.all.length/\n<=l.came+4
 klen:l.kept.length<=N
structure WorkerOK(ks:List KindS)(N:Nat)(x:WorkerS):Prop where
 few:x.tasks.length<=20+N
 good:∀t∈x.tasks,Good ks t/\t.arg<=12
 sent:0<=x.sent/\x.sent<=N
 came:0<=x.came/\x.came<=N
 tok: -((N:Int)*1000000000)<=x.token.count/\x.token.count<=(N:Int)*1000000000
structure AnsOK(N:Nat)(a:AnsS):Prop where
 many:0<=a.many/\a.many<=N
 sent:0<=a.sent/\a.sent<=(N:Int)*1000000000
 came:0<=a.came/\a.came<=(N:Int)*1000000000
structure WayOK(s:RunS)(m:MsgS):Prop where
 src:0<=m.src/\m.src < s.workers
 dst:0<=m.dst/\m.dst < s.workers
 kind:0<=m.kind/\m.kind<=7
 ack:m.kind=0->0<=m.no/\m.no<=(linkOf s m.dst.toNat m.src.toNat).all.length
 sent:m.kind≠0->∃n:Nat,m.no=n+1/\(linkOf s m.src.toNat m.dst.toNat).all[n]?= some m
structure Fine(N:Nat)(s:RunS):Prop where
 len:(s.W.length:Int)=s.workers
 two:2<=s.workers
 five:s.workers<=5
 llen:s.links.length=s.W.length
 lrow:∀ls∈s.links,ls.length=s.W.length
 w60:s.way.length<=60
 rmin:1<=s.room
 rmax:s.room<=20
 prog:progB s.ks s.kind s.arg=true
 works:∀x∈s.W,WorkerOK s.ks N x
 links:∀i j,i < s.W.length->j < s.W.length->LinkOK s.ks (s.answers≠ []) N i j (linkOf s i j)
 ways:∀m∈s.way,WayOK s m
 vals:s.values.length<=N
 alen:s.answers.length<=N
 ans:∀a∈s.answers,AnsOK N a
theorem MsgOK.more{ks:List KindS}{ans ans':Prop}{N N' i j n:Nat}{m:MsgS}(h:MsgOK ks ans N i j n m)(hN:N<=N')(ha:ans->ans'):MsgOK ks ans' N' i j n m:=
 ⟨h.src,h.dst,h.ne,h.no,h.kind,h.task,fun e=>ha (h.told e),h.wave,h.rep,by have:=h.nums;omega⟩
theorem LinkOK.more{ks:List KindS}{ans ans':Prop}{N N' i j:Nat}{l:LinkS}(h:LinkOK ks ans N i j l)(hN:N<=N')(ha:ans->ans'):LinkOK ks ans' N' i j l:=
 ⟨fun n m e=>(h.msgs n m e).more hN ha,Nat.le_trans h.all hN,h.known,h.came,h.kept,Nat.le_trans h.klen hN⟩
theorem WorkerOK.more{ks:List KindS}{N N':Nat}{x:WorkerS}(h:WorkerOK ks N x)(hN:N<=N'):WorkerOK ks N' x:=
 ⟨by have:=h.few;omega,h.good,by have:=h.sent;omega,by have:=h.came;omega,by have:=h.tok;omega⟩
theorem AnsOK.more{N N':Nat}{a:AnsS}(h:AnsOK N a)(hN:N<=N'):AnsOK N' a:=⟨by have:=h.many;omega,by have:=h.sent;omega,by have:=h.came;omega⟩
theorem Fine.more{N N':Nat}{s:RunS}(h:Fine N s)(hN:N<=N'):Fine N' s:=
 ⟨h.len,h.two,h.five,h.llen,h.lrow,h.w60,h.rmin,h.rmax,h.prog,fun x hx=>(h.works x hx).more hN,fun i j hi hj=>(h.links i j hi hj).more hN id,h.ways,Nat.le_trans h.vals hN,Nat.le_trans h.alen hN,fun a ha=>(h.ans a ha).more hN⟩
theorem linkOf_set{s:RunS}{i j:Nat}(l:LinkS)(hl:s.links.length=s.W.length)(hr:∀ls∈s.links,ls.length=s.W.length)(hi:i < s.W.length)(hj:j < s.W.length)(a b:Nat) :
  linkOf (setLink s i j l) a b=if a=i/\b=j then l else linkOf s a b:=by
 have h1:s.links[i]?= some s.links[i]:=List.getElem?_eq_getElem (by omega)
 have h2:=hr _ (List.mem_of_getElem? h1)
 unfold linkOf setLink
 dsimp only
 rw[List.getElem?_set]
 by_cases ha:i=a
 ·subst ha
  rw[if_pos rfl,if_pos (by omega),h1]
  simp only[Option.getD_some,true_and]
  rw[List.getElem?_set]
  by_cases hb:j=b
  ·subst hb
   rw[if_pos rfl,if_pos (by omega),if_pos rfl]
   rfl
  ·rw[if_neg hb,if_neg (fun e=>hb e.symm)]
 ·rw[if_neg ha,if_neg (fun e=>ha e.1.symm)]
theorem setLink_row{s:RunS}{i j:Nat}(l:LinkS)(hr:∀ls∈s.links,ls.length=s.W.length)(hl:s.links.length=s.W.length)(hi:i < s.W.length):∀ls∈(setLink s i j l).links,ls.length=s.W.length:=fun ls h=>by
 rcases List.mem_or_eq_of_mem_set h with h'|rfl
 ·exact hr ls h'
 ·rw[List.length_set,List.getElem?_eq_getElem (show i < s.links.length by omega)]
  exact hr _ (List.getElem_mem _)
theorem Fine.relink{N N':Nat}{s:RunS}(h:Fine N s){i j:Nat}(hi:i < s.W.length)(hj:j < s.W.length){l:LinkS}{L:List MsgS}(hL:l.all=(linkOf s i j).all++L)(hl:LinkOK s.ks (s.answers≠ []) N' i j l)(hN:N<=N'):Fine N' (setLink s i j l):=by
 have h':=h.more hN
 have hset:=linkOf_set l h.llen h.lrow hi hj
 have hpre:∀a b,∃M,(linkOf (setLink s i j l) a b).all=(linkOf s a b).all++M:=fun a b=>by
  rw[hset]
  split
  ·rename_i e
   obtain⟨rfl,rfl⟩:=e
   exact⟨L,hL⟩
  ·exact⟨[],by simp⟩
 refine⟨h.len,h.two,h.five,?_,setLink_row l h.lrow h.llen hi,h.w60,h.rmin,h.rmax,h.prog,h'.works,fun a b ha hb=> ?_,fun m hm=> ?_,h'.vals,h'.alen,h'.ans⟩
 ·show(s.links.set i _).length=s.W.length
  rw[List.length_set];exact h.llen
 ·rw[hset]
  split
  ·rename_i e
   obtain⟨rfl,rfl⟩:=e
   exact hl
  ·exact h'.links a b ha hb
 ·have hw:=h.ways m hm
  refine⟨hw.src,hw.dst,hw.kind,fun e=> ?_,fun e=> ?_⟩
  ·obtain⟨M,hM⟩:=hpre m.dst.toNat m.src.toNat
   have:=hw.ack e
   rw[hM,List.length_append]
   omega
  ·obtain⟨M,hM⟩:=hpre m.src.toNat m.dst.toNat
   obtain⟨n,h1,h2⟩:=hw.sent e
   refine⟨n,h1,?_⟩
   rw[hM,List.getElem?_append_left (List.getElem?_eq_some_iff.1 h2).1]
   exact h2
theorem Fine.reway{N:Nat}{s:RunS}(h:Fine N s){y:List MsgS}(hy:y.length<=60)(hw:∀m∈y,WayOK s m):Fine N {s with way:=y}:=
 ⟨h.len,h.two,h.five,h.llen,h.lrow,hy,h.rmin,h.rmax,h.prog,h.works,h.links,fun m hm=>⟨(hw m hm).src,(hw m hm).dst,(hw m hm).kind,(hw m hm).ack,(hw m hm).sent⟩,h.vals,h.alen,h.ans⟩
theorem Fine.way{N:Nat}{s:RunS}(h:Fine N s){m:MsgS}(hm:WayOK s m):Fine N (wayS s m):=by
 unfold wayS
 split
 ·refine h.reway (by simp;omega) (fun m' hm'=> ?_)
  rcases List.mem_append.1 hm' with e|e
  ·exact h.ways m' e
  ·rw[List.mem_singleton.1 e];exact hm
 ·exact h
theorem Fine.reworker{N N':Nat}{s:RunS}(h:Fine N s)(i:Nat){x:WorkerS}(hx:WorkerOK s.ks N' x)(hN:N<=N'):Fine N' {s with W:=s.W.set i x}:=by
 have h':=h.more hN
 refine⟨?_,h.two,h.five,?_,fun ls hl=> ?_,h.w60,h.rmin,h.rmax,h.prog,fun y hy=> ?_,fun a b ha hb=> ?_,fun m hm=>⟨(h.ways m hm).src,(h.ways m hm).dst,(h.ways m hm).kind,(h.ways m hm).ack,(h.ways m hm).sent⟩,h'.vals,h'.alen,h'.ans⟩
 ·show((s.W.set i x).length:Int)=s.workers
  rw[List.length_set];exact h.len
 ·show s.links.length=(s.W.set i x).length
  rw[List.length_set];exact h.llen
 ·show ls.length=(s.W.set i x).length
  rw[List.length_set];exact h.lrow ls hl
 ·rcases List.mem_or_eq_of_mem_set hy with e|rfl
  ·exact h'.works y e
  ·exact hx
 ·have ha':a < s.W.length:=by simpa using ha
  have hb':b < s.W.length:=by simpa using hb
  exact h'.links a b ha' hb'
theorem Fine.revals{N N':Nat}{s:RunS}(h:Fine N s){v:List (ByteArray×Int)}(hv:v.length<=N')(hN:N<=N'):Fine N' {s with values:=v}:=by
 have h':=h.more hN
 exact⟨h.len,h.two,h.five,h.llen,h.lrow,h.w60,h.rmin,h.rmax,h.prog,h'.works,h'.links,fun m hm=>⟨(h.ways m hm).src,(h.ways m hm).dst,(h.ways m hm).kind,(h.ways m hm).ack,(h.ways m hm).sent⟩,hv,h'.alen,h'.ans⟩
theorem Fine.reflags{N:Nat}{s:RunS}(h:Fine N s)(a o d:Bool):Fine N {s with around:=a,over:=o,done:=d}:=
 ⟨h.len,h.two,h.five,h.llen,h.lrow,h.w60,h.rmin,h.rmax,h.prog,h.works,h.links,fun m hm=>⟨(h.ways m hm).src,(h.ways m hm).dst,(h.ways m hm).kind,(h.ways m hm).ack,(h.ways m hm).sent⟩,h.vals,h.alen,h.ans⟩
theorem Fine.reans{N N':Nat}{s:RunS}(h:Fine N s){l:List AnsS}(hl:l.length<=N')(hn:l≠ [])(ha:∀a∈l,AnsOK N' a)(hN:N<=N'):Fine N' {s with answers:=l}:=by
 have h':=h.more hN
 exact⟨h.len,h.two,h.five,h.llen,h.lrow,h.w60,h.rmin,h.rmax,h.prog,h'.works,fun i j hi hj=>(h'.links i j hi hj).more (Nat.le_refl _) (fun _=>hn),fun m hm=>⟨(h.ways m hm).src,(h.ways m hm).dst,(h.ways m hm).kind,(h.ways m hm).ack,(h.ways m hm).sent⟩,h'.vals,hl,ha⟩
theorem worker0_ok(ks:List KindS)(N:Nat):WorkerOK ks N worker0:=⟨by simp[worker0],fun t h=>by simp[worker0]at h,by simp[worker0],by simp[worker0],by simp[worker0,msg0];omega⟩
theorem Fine.worker{N:Nat}{s:RunS}(h:Fine N s)(i:Nat):WorkerOK s.ks N (s.W[i]?.getD worker0):=by
 cases hx:s.W[i]? with
 |none=>exact worker0_ok _ _
 |some x=>exact h.works x (List.mem_of_getElem? hx)
theorem Fine.send{N:Nat}{s:RunS}(h:Fine N s){m:MsgS}{i j:Nat}(hi:i < s.W.length)(hj:j < s.W.length)(hm:∀n:Nat,MsgOK s.ks (s.answers≠ []) (N+1) i j n {m with no:=n+1}):Fine (N+1) (sendS s m):=by
 have e1:m.src.toNat=i:=by have:=(hm 0).src;dsimp only at this;omega
 have e2:m.dst.toNat=j:=by have:=(hm 0).dst;dsimp only at this;omega
 have hl:=h.links i j hi hj
 have hlk:LinkOK s.ks (s.answers≠ []) (N+1) i j {linkOf s i j with all:=(linkOf s i j).all++ [{m with no:=(linkOf s i j).all.length+1}]}:=by
  refine⟨fun n m' e=> ?_,?_,?_,?_,fun n hn=> ?_,Nat.le_succ_of_le hl.klen⟩
  ·rcases Nat.lt_or_ge n (linkOf s i j).all.length with hlt|hge
   ·rw[List.getElem?_append_left hlt]at e
    exact(hl.msgs n m' e).more (Nat.le_succ _) id
   ·rw[List.getElem?_append_right hge]at e
    have hn:n=(linkOf s i j).all.length:=by
     have:=(List.getElem?_eq_some_iff.1 e).1
     simp at this
     omega
    subst hn
    simp at e
    subst e
    exact hm _
  ·simp;exact hl.all
  ·have:=hl.known;simp;omega
  ·have:=hl.came;simp;omega
  ·have:=hl.kept n hn;simp;omega
 have hs1:=h.relink hi hj (L:=[{m with no:=(linkOf s i j).all.length+1}]) rfl hlk (Nat.le_succ _)
 have hk:=(hm 0).kind
 have hwk:∀s2:RunS,s2.links=(setLink s i j {linkOf s i j with all:=(linkOf s i j).all++ [{m with no:=(linkOf s i j).all.length+1}]}).links->s2.workers=s.workers->WayOK s2 {m with no:=(linkOf s i j).all.length+1}:=fun s2 h2 h3=>by
  have q1:=(hm 0).src
  have q2:=(hm 0).dst
  have q3:=h.len
  dsimp only at q1 q2 hk
  refine⟨by rw[h3];dsimp only;omega,by rw[h3];dsimp only;omega,by dsimp only;omega,fun e=>by dsimp only at e;omega,fun _=>⟨(linkOf s i j).all.length,rfl,?_⟩⟩
  have:linkOf s2 m.src.toNat m.dst.toNat=linkOf (setLink s i j {linkOf s i j with all:=(linkOf s i j).all++ [{m with no:=(linkOf s i j).all.length+1}]}) i j:=by
   show(s2.links[m.src.toNat]?.getD [])[m.dst.toNat]?.getD link0=_
   rw[h2,e1,e2]
   rfl
  show(linkOf s2 m.src.toNat m.dst.toNat).all[_]?= _
  rw[this,linkOf_set _ h.llen h.lrow hi hj,if_pos ⟨rfl,rfl⟩]
  simp
 unfold sendS
 dsimp only
 rw[e1,e2]
 split
 ·refine Fine.way ?_ (hwk _ rfl rfl)
  have hx:=h.worker i
  exact hs1.reworker i (x:={s.W[i]?.getD worker0 with sent:=(s.W[i]?.getD worker0).sent+1}) ⟨by have:=hx.few;dsimp only;omega,hx.good,by have:=hx.sent;dsimp only;omega,by have:=hx.came;dsimp only;omega,by have:=hx.tok;dsimp only;omega⟩ (Nat.le_refl _)
 ·exact Fine.way hs1 (hwk _ rfl rfl)
theorem Fine.nat{N:Nat}{s:RunS}(h:Fine N s){i:Int}(h0:0<=i)(h1:i < s.workers):i.toNat < s.W.length/\i=(i.toNat:Int):=by
 have:=h.len
 omega
theorem msg_ok{ks:List KindS}{ans:Prop}{N i j n:Nat}{m:MsgS}(h1:m.src=i)(h2:m.dst=j)(h3:i≠j)(h4:m.no=n+1)(h5:1<=m.kind/\m.kind<=4)(h6:m.kind=2->Good ks m.t/\m.t.arg<=12)(h7:m.sent=0/\m.came=0/\m.count=0):MsgOK ks ans N i j n m:=
 ⟨h1,h2,h3,h4,by omega,h6,fun e=>by omega,fun e=>by omega,fun e=>by omega,by omega⟩
theorem Fine.work{N:Nat}{s:RunS}(h:Fine N s)(i:Int):Fine (N+1) (workS s i).1:=by
 have h1:=h.more (Nat.le_succ N)
 unfold workS
 split
 ·exact h1
 ·rename_i hw
  have hr:0<=i/\i < s.workers:=by
   unfold workerE at hw
   split at hw
   ·omega
   ·rename_i hn
    simp at hw
    simp[hw]at hn
    omega
  obtain⟨hil,hie⟩:=h.nat hr.1 hr.2
  split
  ·exact h1
  ·rename_i x hx
   have hxo:=h.works x (List.mem_of_getElem? hx)
   split
   ·exact h1
   ·rename_i t ht
    have htm:t∈x.tasks:=List.mem_of_getLast? ht
    split
    ·exact h1.reflags _ _ _
    ·rename_i hroom
     have hwk:WorkerOK s.ks N {x with tasks:=x.tasks.dropLast++children s.ks t}:=by
      refine⟨?_,fun c hc=> ?_,hxo.sent,hxo.came,hxo.tok⟩
      ·have:=h.rmax
       have:x.tasks.length≠0:=fun e=>by rw[List.length_eq_zero_iff]at e;rw[e]at htm;simp at htm
       simp
       omega
      ·rcases List.mem_append.1 hc with e|e
       ·exact hxo.good c ((List.dropLast_sublist _).subset e)
       ·exact childrenFrom_good h.prog (hxo.good t htm) c e
     have hs1:=h.reworker i.toNat hwk (Nat.le_refl _)
     dsimp only
     split
     ·refine(hs1.more (Nat.le_succ N)).revals ?_ (Nat.le_refl _)
      rw[putS_length]
      have:=h.vals
      omega
     ·rename_i h0
      refine hs1.send (i:=i.toNat) (j:=0) ?_ ?_ (fun n=>msg_ok hie rfl (by omega) rfl (by dsimp only;decide) (fun e=>by simp at e) ⟨rfl,rfl,rfl⟩)
      ·simpa using hil
      ·have:=h.len
       have:=h.two
       simp;omega
theorem workerE_range{s:RunS}{i:Int}(hw:¬workerE s i≠0):0<=i/\i < s.workers:=by
 unfold workerE at hw
 split at hw
 ·omega
 ·rename_i hn
  simp at hw
  simp[hw]at hn
  omega
theorem messageE_range{s:RunS}{i:Int}(hw:¬messageE s i≠0):0<=i/\i < s.way.length:=by
 unfold messageE at hw
 split at hw
 ·omega
 ·rename_i hn
  simp at hw
  simp[hw]at hn
  omega
theorem Fine.steal{N:Nat}{s:RunS}(h:Fine N s)(i v:Int):Fine (N+1) (stealS s i v).1:=by
 have h1:=h.more (Nat.le_succ N)
 unfold stealS
 split
 ·exact h1
 ·rename_i hi
  split
  ·exact h1
  ·rename_i hv
   split
   ·exact h1
   ·rename_i hne
    obtain⟨hi0,hi1⟩:=workerE_range hi
    obtain⟨hv0,hv1⟩:=workerE_range hv
    obtain⟨hil,hie⟩:=h.nat hi0 hi1
    obtain⟨hvl,hve⟩:=h.nat hv0 hv1
    split
    ·exact h1
    ·rename_i x hx
     have hxo:=h.works x (List.mem_of_getElem? hx)
     split
     ·exact h1
     ·refine Fine.send (h.reworker i.toNat (x:={x with asked:=true}) ⟨hxo.few,hxo.good,hxo.sent,hxo.came,hxo.tok⟩ (Nat.le_refl _)) (i:=i.toNat) (j:=v.toNat) ?_ ?_ (fun n=>msg_ok hie hve (by omega) rfl (by dsimp only;decide) (fun e=>by simp at e) ⟨rfl,rfl,rfl⟩)
      ·simpa using hil
      ·simpa using hvl
theorem Fine.drop{N:Nat}{s:RunS}(h:Fine N s)(k:Int):Fine N (dropS s k).1:=by
 unfold dropS
 split
 ·exact h
 ·refine h.reway ?_ (fun m hm=>h.ways m ?_)
  ·have:=h.w60
   simp
   omega
  ·rcases List.mem_append.1 hm with e|e
   ·exact List.mem_of_mem_take e
   ·exact List.mem_of_mem_drop e
theorem Fine.twice{N:Nat}{s:RunS}(h:Fine N s)(k:Int):Fine N (twiceS s k).1:=by
 unfold twiceS
 split
 ·exact h
 ·rename_i hm
  obtain⟨h0,h1⟩:=messageE_range hm
  refine h.way ?_
  rw[List.getElem?_eq_getElem (show k.toNat < s.way.length by omega)]
  exact h.ways _ (List.getElem_mem _)
theorem Fine.again{N:Nat}{s:RunS}(h:Fine N s){i j:Nat}(hi:i < s.W.length)(hj:j < s.W.length)(l:LinkS)(hl:l=linkOf s i j):Fine N (againS s l):=by
 subst hl
 have hk:=h.links i j hi hj
 unfold againS
 split
 ·rename_i hlt
  refine h.way ?_
  have h0:=hk.known
  have hg:(linkOf s i j).all[(linkOf s i j).known.toNat]?= some (linkOf s i j).all[(linkOf s i j).known.toNat]:=List.getElem?_eq_getElem (by omega)
  rw[hg]
  have hm:=hk.msgs _ _ hg
  have hlen:=h.len
  have hkd:=hm.kind
  simp only[Option.getD_some]
  refine⟨by have:=hm.src;omega,by have:=hm.dst;omega,by omega,fun e=>by omega,fun _=>⟨_,hm.no,?_⟩⟩
  have e1:(linkOf s i j).all[(linkOf s i j).known.toNat].src.toNat=i:=by have:=hm.src;omega
  have e2:(linkOf s i j).all[(linkOf s i j).known.toNat].dst.toNat=j:=by have:=hm.dst;omega
  rw[e1,e2]
  exact hg
 ·exact h
theorem againS_links(s:RunS)(l:LinkS):(againS s l).links=s.links/\(againS s l).W=s.W:=by
 unfold againS wayS
 split
 ·split<;>exact⟨rfl,rfl⟩
 ·exact⟨rfl,rfl⟩
theorem Fine.tick{N:Nat}{s:RunS}(h:Fine N s)(i:Int):Fine N (tickS s i).1:=by
 unfold tickS
 split
 ·exact h
 ·rename_i hw
  obtain⟨h0,h1⟩:=workerE_range hw
  obtain⟨hil,hie⟩:=h.nat h0 h1
  have key:∀(L:List LinkS) (k:Nat) (s':RunS),Fine N s'->s'.links=s.links->s'.W=s.W->(∀n l,L[n]?= some l->l=linkOf s i.toNat (k+n)/\k+n < s.W.length)->Fine N (L.foldl againS s'):=by
   intro L
   induction L with
   |nil=>intro k s' h' _ _ _;exact h'
   |cons l r ih=>
    intro k s' h' e1 e2 hL
    have hl:=hL 0 l rfl
    rw[Nat.add_zero]at hl
    refine ih (k+1) _ (h'.again (i:=i.toNat) (j:=k) (by rw[e2];exact hil) (by rw[e2];exact hl.2) l ?_) ((againS_links s' l).1.trans e1) ((againS_links s' l).2.trans e2) (fun n l' hn=> ?_)
    ·rw[hl.1]
     unfold linkOf
     rw[e1]
    ·have:=hL (n+1) l' (by simpa using hn)
     rw[show k+1+n=k+(n+1) by omega]
     exact this
  have hg:s.links[i.toNat]?= some (s.links[i.toNat]'(by have:=h.llen;omega)):=List.getElem?_eq_getElem _
  have hlen:=h.lrow _ (List.mem_of_getElem? hg)
  refine key _ 0 s h rfl rfl (fun n l hn=> ?_)
  rw[hg]at hn
  simp only[Option.getD_some]at hn
  have hnl:=(List.getElem?_eq_some_iff.1 hn).1
  refine⟨?_,by omega⟩
  unfold linkOf
  rw[hg,Nat.zero_add,Option.getD_some,hn]
  rfl
theorem Fine.noted{N:Nat}{s:RunS}(h:Fine N s){a b:Int}(c:Bool)(ha:0<=a/\a<=1000000000)(hb:0<=b/\b<=1000000000):Fine (N+1) (notedS s a b c):=by
 unfold notedS
 split
 ·exact h.more (Nat.le_succ N)
 ·rename_i x hx
  have hm:x∈s.answers:=List.mem_of_getLast? hx
  have hxo:=h.ans x hm
  refine h.reans ?_ (by simp) (fun y hy=> ?_) (Nat.le_succ N)
  ·have:=h.alen
   have:s.answers.length≠0:=fun e=>by rw[List.length_eq_zero_iff]at e;rw[e]at hm;simp at hm
   simp
   omega
  ·rcases List.mem_append.1 hy with e|e
   ·exact(h.ans y ((List.dropLast_sublist _).subset e)).more (Nat.le_succ N)
   ·rw[List.mem_singleton.1 e]
    exact⟨by have:=hxo.many;dsimp only;omega,by have:=hxo.sent;dsimp only;omega,by have:=hxo.came;dsimp only;omega⟩
theorem Fine.came{N:Nat}{s:RunS}(h:Fine N s)(hN:N<=1000000000){i j n:Nat}{m:MsgS}(hi:i < s.W.length)(hj:j < s.W.length)(hm:MsgOK s.ks (s.answers≠ []) N i j n m):Fine (N+1) (cameS s m):=by
 have h1:=h.more (Nat.le_succ N)
 have hxo:=h.worker m.dst.toNat
 have hs0:=hm.src
 have hd0:=hm.dst
 have hne:=hm.ne
 have hnums:=hm.nums
 unfold cameS
 dsimp only
 generalize hx:s.W[m.dst.toNat]?.getD worker0=x at hxo ⊢
 split
 ·split
  ·exact h.send (i:=j) (j:=i) hj hi (fun n=>msg_ok hd0 hs0 (by omega) rfl (by dsimp only;decide) (fun e=>by simp at e) ⟨rfl,rfl,rfl⟩)
  ·rename_i t r ht
   have hwk:WorkerOK s.ks N {x with tasks:=r}:=⟨by have:=hxo.few;rw[ht]at this;simp at this;dsimp only;omega,fun c hc=>hxo.good c (by rw[ht];exact List.mem_cons_of_mem _ hc),hxo.sent,hxo.came,hxo.tok⟩
   refine Fine.send (h.reworker m.dst.toNat hwk (Nat.le_refl _)) (i:=j) (j:=i) (by simpa using hj) (by simpa using hi) (fun n=>msg_ok hd0 hs0 (by omega) rfl (by dsimp only;decide) (fun _=>hxo.good t (by rw[ht];exact List.mem_cons_self ..)) ⟨rfl,rfl,rfl⟩)
 ·split
  ·rename_i h2
   refine h.reworker _ ⟨?_,fun c hc=> ?_,?_,?_,?_⟩ (Nat.le_succ N)
   ·have:=hxo.few;simp;omega
   ·rcases List.mem_append.1 hc with e|e
    ·exact hxo.good c e
    ·rw[List.mem_singleton.1 e];exact hm.task h2
   ·have:=hxo.sent;dsimp only;omega
   ·have:=hxo.came;dsimp only;omega
   ·have:=hxo.tok;dsimp only;omega
  ·split
   ·refine(h.reworker m.dst.toNat (x:={x with asked:=false}) ⟨hxo.few,hxo.good,hxo.sent,hxo.came,hxo.tok⟩ (Nat.le_refl _)).more (Nat.le_succ N)
   ·split
    ·refine Fine.revals (h.reworker m.dst.toNat (x:={x with came:=x.came+1,black:=true}) (N':=N+1) ⟨by have:=hxo.few;dsimp only;omega,hxo.good,by have:=hxo.sent;dsimp only;omega,by have:=hxo.came;dsimp only;omega,by have:=hxo.tok;dsimp only;omega⟩ (Nat.le_succ N)) ?_ (Nat.le_refl _)
     rw[putS_length]
     have:=h.vals
     omega
    ·split
     ·exact Fine.reflags ((h.reworker m.dst.toNat (x:={x with has:=true,token:=m}) ⟨hxo.few,hxo.good,hxo.sent,hxo.came,by dsimp only;omega⟩ (Nat.le_refl _)).more (Nat.le_succ N)) _ _ _
     ·split
      ·rename_i h6
       have hi0:=hm.wave h6
       have hsn:=hxo.sent
       have hcm:=hxo.came
       refine h.send (i:=j) (j:=i) hj hi (fun n=>⟨hd0,by show(0:Int)=_;omega,by omega,rfl,by dsimp only;decide,fun e=>by simp at e,fun _=>hm.told (.inl h6),fun e=>by simp at e,fun _=>hi0,?_⟩)
       refine⟨hsn.1,?_,hcm.1,?_,?_,?_⟩
       ·show x.sent<=_;omega
       ·show x.came<=_;omega
       ·show _<=(0:Int);omega
       ·show(0:Int)<=_;omega
      ·split
       ·exact h.noted _ ⟨hnums.1,hnums.2.1⟩ ⟨hnums.2.2.1,hnums.2.2.2.1⟩
       ·exact h1
theorem sendS_link(s:RunS)(m:MsgS){a b:Nat}(hl:s.links.length=s.W.length)(hr:∀ls∈s.links,ls.length=s.W.length)(hi:m.src.toNat < s.W.length)(hj:m.dst.toNat < s.W.length)(h:¬(a=m.src.toNat/\b=m.dst.toNat)):linkOf (sendS s m) a b=linkOf s a b:=by
 have e:∀s2:RunS,s2.links=(setLink s m.src.toNat m.dst.toNat {linkOf s m.src.toNat m.dst.toNat with all:=(linkOf s m.src.toNat m.dst.toNat).all++ [{m with no:=(linkOf s m.src.toNat m.dst.toNat).all.length+1}]}).links->linkOf s2 a b=linkOf s a b:=fun s2 h2=>by
  have:=linkOf_set {linkOf s m.src.toNat m.dst.toNat with all:=(linkOf s m.src.toNat m.dst.toNat).all++ [{m with no:=(linkOf s m.src.toNat m.dst.toNat).all.length+1}]} hl hr hi hj a b
  rw[if_neg h]at this
  rw[<-this]
  show(s2.links[a]?.getD [])[b]?.getD link0=_
  rw[h2]
  rfl
 apply e
 unfold sendS wayS
 dsimp only
 split<;>split<;>rfl
theorem cameS_link{N:Nat}{s:RunS}(h:Fine N s){i j n:Nat}{m:MsgS}(hi:i < s.W.length)(hj:j < s.W.length)(hm:MsgOK s.ks (s.answers≠ []) N i j n m):linkOf (cameS s m) i j=linkOf s i j/\(cameS s m).W.length=s.W.length:=by
 have hs0:=hm.src
 have hd0:=hm.dst
 have hne:=hm.ne
 have sendW:∀(s:RunS) (m:MsgS),(sendS s m).W.length=s.W.length:=fun s m=>by
  unfold sendS wayS
  dsimp only
  split<;>split<;>simp
 unfold cameS
 dsimp only
 generalize s.W[m.dst.toNat]?.getD worker0=x
 split
 ·split
  ·exact⟨sendS_link _ _ h.llen h.lrow (by show m.dst.toNat < _;omega) (by show m.src.toNat < _;omega) (by show¬(i=m.dst.toNat/\j=m.src.toNat);omega),sendW _ _⟩
  ·rename_i t r ht
   refine⟨(sendS_link _ _ (by simpa using h.llen) (by simpa using h.lrow) (by show m.dst.toNat < _;simp;omega) (by show m.src.toNat < _;simp;omega) (by show¬(i=m.dst.toNat/\j=m.src.toNat);omega)).trans rfl,(sendW _ _).trans (by simp)⟩
 ·split
  ·exact⟨rfl,by simp⟩
  ·split
   ·exact⟨rfl,by simp⟩
   ·split
    ·exact⟨rfl,by simp⟩
    ·split
     ·exact⟨rfl,by simp⟩
     ·split
      ·exact⟨sendS_link _ _ h.llen h.lrow (by show m.dst.toNat < _;omega) (by show(0:Int).toNat < _;simp;omega) (by show¬(i=m.dst.toNat/\j=(0:Int).toNat);omega),sendW _ _⟩
      ·split
       ·unfold notedS
        split<;>exact⟨rfl,rfl⟩
       ·exact⟨rfl,rfl⟩
theorem linkOf_mem{s:RunS}(hl:s.links.length=s.W.length)(hr:∀ls∈s.links,ls.length=s.W.length){ls:List LinkS}{l:LinkS}(h1:ls∈s.links)(h2:l∈ls):∃i j,i < s.W.length/\j < s.W.length/\l=linkOf s i j:=by
 obtain⟨i,hi,rfl⟩:=List.mem_iff_getElem.1 h1
 obtain⟨j,hj,rfl⟩:=List.mem_iff_getElem.1 h2
 have:=hr _ h1
 refine⟨i,j,by omega,by omega,?_⟩
 unfold linkOf
 rw[List.getElem?_eq_getElem hi,Option.getD_some,List.getElem?_eq_getElem hj,Option.getD_some]
theorem Fine.shaped{N:Nat}{s:RunS}(h:Fine N s):Shaped s:=⟨h.len,h.two,h.five,h.llen,h.lrow,h.w60⟩
theorem Fine.small{N:Nat}{s:RunS}(h:Fine N s):Small N s:=by
 have key:∀ls∈s.links,∀l∈ls,∃i j,LinkOK s.ks (s.answers≠ []) N i j l:=fun ls h1 l h2=>by
  obtain⟨i,j,hi,hj,rfl⟩:=linkOf_mem h.llen h.lrow h1 h2
  exact⟨i,j,h.links i j hi hj⟩
 refine⟨fun ls h1 l h2=> ?_,fun ls h1 l h2=> ?_,fun ls h1 l h2=> ?_,fun ls h1 l h2=> ?_,fun x hx=>(h.works x hx).sent,fun x hx=>(h.works x hx).came⟩
 all_goals obtain⟨i,j,hk⟩:=key ls h1 l h2
 ·exact hk.all
 ·exact hk.known.1
 ·have:=hk.came
  have:=hk.all
  omega
 ·exact hk.klen
theorem Fine.known{N:Nat}{s:RunS}(h:Fine N s):∀ls∈s.links,∀l∈ls,l.known.toNat<=l.all.length:=fun ls h1 l h2=>by
 obtain⟨i,j,hi,hj,rfl⟩:=linkOf_mem h.llen h.lrow h1 h2
 have:=(h.links i j hi hj).known
 omega
theorem Fine.ready{N:Nat}{s:RunS}(h:Fine N s)(hN:N<=90000000){i j n:Nat}{m:MsgS}(hi:i < s.W.length)(hj:j < s.W.length)(hm:MsgOK s.ks (s.answers≠ []) N i j n m):CameReady s m:=by
 have hlen:=h.len
 have hs0:=hm.src
 have hd0:=hm.dst
 have hnums:=hm.nums
 refine⟨h.shaped,⟨N,by omega,h.small⟩,by omega,by omega,fun x hx=>by have:=(h.works x hx).few;omega,by have:=h.vals;omega,hm.kind,fun h7=> ?_⟩
 have hne:=hm.told (.inr h7)
 have e:=List.dropLast_concat_getLast hne
 have ha:=h.ans _ (List.getLast_mem hne)
 have hal:=h.alen
 refine⟨s.answers.dropLast,s.answers.getLast hne,e.symm,by simp;omega,by have:=ha.many;omega,?_,?_⟩
 ·have:=ha.sent;omega
 ·have:=ha.came;omega
theorem Fine.linkFine{N:Nat}{s:RunS}(h:Fine N s)(hN:N<=90000000){i j:Nat}(hi:i < s.W.length)(hj:j < s.W.length):LinkFine s i j:=by
 have hl:=h.links i j hi hj
 have h1:=hl.klen
 have h2:=hl.came
 have h3:=hl.all
 exact⟨h.shaped,by omega,by omega⟩
theorem Fine.come{i j:Nat}:∀(f d N:Nat) (s:RunS),Fine N s->i < s.W.length->j < s.W.length->N+d<=90000000->(∀n∈(linkOf s i j).kept,n<=(linkOf s i j).came+d)->((linkOf s i j).all.length:Int)+1<=(linkOf s i j).came+f->ComeOK f s i j/\Fine (N+d) (comeS f s i j):=by
 intro f
 induction f with
 |zero=>
  intro d N s h hi hj _ _ hf
  have:=(h.links i j hi hj).came
  omega
 |succ f ih=>
  intro d N s h hi hj hN hd hf
  have hl:=h.links i j hi hj
  unfold ComeOK comeS
  by_cases hb:nextB (linkOf s i j)=true
  ·rw[if_pos hb]
   have hmem:(linkOf s i j).came+1∈(linkOf s i j).kept:=by
    unfold nextB at hb
    obtain⟨y,hy,hye⟩:=List.any_eq_true.1 hb
    have:y=(linkOf s i j).came+1:=by simpa using hye
    rw[<-this];exact hy
   have hk:=hl.kept _ hmem
   have hd1:=hd _ hmem
   have hc:=hl.came
   have hs1:Fine N (setLink s i j {linkOf s i j with came:=(linkOf s i j).came+1}):=h.relink hi hj (L:=[]) (by simp) ⟨hl.msgs,hl.all,hl.known,by dsimp only;omega,fun n hn=>by have:=hl.kept n hn;dsimp only;omega,hl.klen⟩ (Nat.le_refl _)
   have hg:(linkOf s i j).all[(linkOf s i j).came.toNat]?= some ((linkOf s i j).all[(linkOf s i j).came.toNat]'(by omega)):=List.getElem?_eq_getElem _
   have hm:=hl.msgs _ _ hg
   have hst:stepS s i j=cameS (setLink s i j {linkOf s i j with came:=(linkOf s i j).came+1}) ((linkOf s i j).all[(linkOf s i j).came.toNat]'(by omega)):=by
    unfold stepS
    rw[hg,Option.getD_some]
   have hfin:Fine (N+1) (stepS s i j):=by
    rw[hst]
    exact hs1.came (by omega) hi hj hm
   obtain⟨hlk,hlw⟩:=cameS_link hs1 hi hj hm
   rw[<-hst]at hlk hlw
   rw[linkOf_set _ h.llen h.lrow hi hj,if_pos ⟨rfl,rfl⟩]at hlk
   have hlw':(stepS s i j).W.length=s.W.length:=hlw
   have r:=ih (d - 1) (N+1) (stepS s i j) hfin (by omega) (by omega) (by omega) (fun n hn=>by rw[hlk]at hn ⊢;have:=hd n hn;dsimp only;omega) (by rw[hlk];dsimp only;omega)
   refine⟨⟨h.linkFine (by omega) hi hj,fun _=>⟨by omega,?_,r.1⟩⟩,?_⟩
   ·rw[hg,Option.getD_some]
    exact hs1.ready (by omega) hi hj hm
   ·have:=r.2
    rw[show N+1+(d - 1)=N+d by omega]at this
    exact this
  ·rw[if_neg hb]
   exact⟨⟨h.linkFine (by omega) hi hj,fun e=>absurd e hb⟩,h.more (Nat.le_add_right _ _)⟩
theorem Fine.unway{N:Nat}{s:RunS}(h:Fine N s)(k:Nat):Fine N {s with way:=s.way.take k++s.way.drop (k+1)}:=by
 refine h.reway ?_ (fun m hm=>h.ways m ?_)
 ·have:=h.w60
  simp
  omega
 ·rcases List.mem_append.1 hm with e|e
  ·exact List.mem_of_mem_take e
  ·exact List.mem_of_mem_drop e
theorem Fine.keep{N:Nat}{s:RunS}(h:Fine N s){i j:Nat}(hi:i < s.W.length)(hj:j < s.W.length){n:Int}(hn:n<=(linkOf s i j).all.length):Fine (N+1) (setLink s i j (keepS (linkOf s i j) n)):=by
 have hl:=h.links i j hi hj
 refine h.relink hi hj (L:=[]) ?_ ?_ (Nat.le_succ N)
 ·unfold keepS
  split<;>simp
 ·unfold keepS
  split
  ·rename_i hc
   obtain⟨h1,h2,-⟩:=hc
   have h0:=hl.came
   have hk:=hl.klen
   refine⟨fun a m e=>(hl.msgs a m e).more (Nat.le_succ N) id,Nat.le_succ_of_le hl.all,hl.known,hl.came,fun a ha=> ?_,by simp;omega⟩
   rcases List.mem_append.1 ha with e|e
   ·exact hl.kept a e
   ·rw[List.mem_singleton.1 e]
    dsimp only
    omega
  ·exact hl.more (Nat.le_succ N) id
theorem sendS_workers(s:RunS)(m:MsgS):(sendS s m).workers=s.workers:=by
 unfold sendS wayS
 dsimp only
 split<;>split<;>rfl
theorem cameS_workers(s:RunS)(m:MsgS):(cameS s m).workers=s.workers:=by
 unfold cameS
 dsimp only
 split
 ·split
  ·exact sendS_workers _ _
  ·exact sendS_workers _ _
 ·repeat' split
  all_goals first|rfl|exact sendS_workers _ _|(unfold notedS;split<;>rfl)
theorem comeS_workers(i j:Nat):∀(f:Nat) (s:RunS),(comeS f s i j).workers=s.workers:=by
 intro f
 induction f with
 |zero=>intro s;rfl
 |succ f ih=>
  intro s
  unfold comeS
  split
  ·rw[ih]
   unfold stepS
   rw[cameS_workers]
   rfl
  ·rfl
theorem Fine.deliver{N:Nat}{s:RunS}(h:Fine N s)(hN:N+5<=90000000)(k:Int):Fine (N+5) (deliverS s k).1:=by
 have h5:=h.more (Nat.le_add_right N 5)
 unfold deliverS
 split
 ·exact h5
 ·rename_i hme
  obtain⟨h0,h1⟩:=messageE_range hme
  have hg:s.way[k.toNat]?= some (s.way[k.toNat]'(by omega)):=List.getElem?_eq_getElem _
  have hw:=h.ways _ (List.mem_of_getElem? hg)
  rw[hg]
  dsimp only[Option.getD_some]
  generalize s.way[k.toNat]=m at hw ⊢
  have hu:=h.unway k.toNat
  obtain⟨hsl,hse⟩:=h.nat hw.src.1 hw.src.2
  obtain⟨hdl,hde⟩:=h.nat hw.dst.1 hw.dst.2
  split
  ·rename_i hk0
   split
   ·rename_i hlt
    have hl:=hu.links _ _ hdl hsl
    refine(hu.relink hdl hsl (l:={linkOf {s with way:=s.way.take k.toNat++s.way.drop (k.toNat+1)} m.dst.toNat m.src.toNat with known:=m.no}) (L:=[]) (by simp) ⟨hl.msgs,hl.all,?_,hl.came,hl.kept,hl.klen⟩ (Nat.le_refl _)).more (Nat.le_add_right N 5)
    exact hw.ack hk0
   ·exact hu.more (Nat.le_add_right N 5)
  ·rename_i hk0
   obtain⟨n,hn,hne⟩:=hw.sent hk0
   have hnl:=(List.getElem?_eq_some_iff.1 hne).1
   have hkp:=hu.keep hsl hdl (n:=m.no) (by rw[hn];show(n:Int)+1<=((linkOf s m.src.toNat m.dst.toNat).all.length:Int);omega)
   have hset:=linkOf_set (s:={s with way:=s.way.take k.toNat++s.way.drop (k.toNat+1)}) (keepS (linkOf {s with way:=s.way.take k.toNat++s.way.drop (k.toNat+1)} m.src.toNat m.dst.toNat) m.no) hu.llen hu.lrow hsl hdl m.src.toNat m.dst.toNat
   rw[if_pos ⟨rfl,rfl⟩]at hset
   have hc:=Fine.come (i:=m.src.toNat) (j:=m.dst.toNat) ((linkOf {s with way:=s.way.take k.toNat++s.way.drop (k.toNat+1)} m.src.toNat m.dst.toNat).all.length+1) 4 _ _ hkp hsl hdl (by omega) (fun a ha=>((hkp.links _ _ hsl hdl).kept a ha).2.2) (by
    have hkc:=(hkp.links _ _ hsl hdl).came
    rw[hset]at hkc ⊢
    have:(keepS (linkOf {s with way:=s.way.take k.toNat++s.way.drop (k.toNat+1)} m.src.toNat m.dst.toNat) m.no).all=(linkOf {s with way:=s.way.take k.toNat++s.way.drop (k.toNat+1)} m.src.toNat m.dst.toNat).all:=by
     unfold keepS
     split<;>rfl
    rw[this]at hkc ⊢
    omega)
   have hf:=hc.2
   have hwk:=comeS_workers m.src.toNat m.dst.toNat ((linkOf {s with way:=s.way.take k.toNat++s.way.drop (k.toNat+1)} m.src.toNat m.dst.toNat).all.length+1) (setLink {s with way:=s.way.take k.toNat++s.way.drop (k.toNat+1)} m.src.toNat m.dst.toNat (keepS (linkOf {s with way:=s.way.take k.toNat++s.way.drop (k.toNat+1)} m.src.toNat m.dst.toNat) m.no))
   have hwk':_=s.workers:=hwk
   clear hc hset hkp
   revert hf hwk'
   generalize comeS _ _ _ _=s3
   intro hf hwk'
   refine Fine.way hf ⟨?_,?_,?_,fun _=> ?_,fun e=>absurd rfl e⟩
   ·rw[hwk'];exact hw.dst
   ·rw[hwk'];exact hw.src
   ·exact⟨Int.le_refl _,by show(0:Int)<=7;omega⟩
   ·have h3:=hf.len
    rw[hwk']at h3
    have h4:=h.len
    have hl3:=(hf.links m.src.toNat m.dst.toNat (by omega) (by omega)).came
    exact hl3
theorem Fine.pass{N:Nat}{s:RunS}(h:Fine N s)(hN:N<=1000000000)(i:Int):Fine (N+1) (passS s i).1:=by
 have h1:=h.more (Nat.le_succ N)
 unfold passS
 split
 ·exact h1
 ·rename_i hw
  obtain⟨h0,hlt⟩:=workerE_range hw
  obtain⟨hil,hie⟩:=h.nat h0 hlt
  split
  ·exact h1
  ·rename_i x hx
   have hxo:=h.works x (List.mem_of_getElem? hx)
   split
   ·exact h1
   ·rename_i hc
    have hi0:i≠0:=fun e=>hc (.inr (.inl e))
    have ht:=hxo.tok
    have hs:=hxo.sent
    have hcm:=hxo.came
    dsimp only
    refine Fine.reworker (h.send (i:=i.toNat) (j:=(i - 1).toNat) hil (by omega) (fun n=>⟨hie,by show i - 1=_;omega,by omega,rfl,by dsimp only;decide,fun e=>by simp at e,fun e=>by simp at e,fun e=>by simp at e,fun e=>by simp at e,⟨by show(0:Int)<=0;omega,by show(0:Int)<=_;omega,by show(0:Int)<=0;omega,by show(0:Int)<=_;omega,?_,?_⟩⟩)) i.toNat ?_ (Nat.le_refl _)
    ·show _<=x.token.count+x.sent - x.came
     omega
    ·show x.token.count+x.sent - x.came<=_
     omega
    ·have hk:(sendS s {msg0 with src:=i,dst:=i - 1,kind:=5,count:=x.token.count+x.sent - x.came,black:=x.token.black||x.black}).ks=s.ks:=by
      unfold sendS wayS
      dsimp only
      split<;>split<;>rfl
     rw[hk]
     exact⟨by have:=hxo.few;dsimp only;omega,hxo.good,by dsimp only;omega,by dsimp only;omega,by dsimp only;omega⟩
theorem sendS_rest(s:RunS)(m:MsgS):(sendS s m).answers=s.answers/\(sendS s m).W.length=s.W.length/\(sendS s m).ks=s.ks:=by
 unfold sendS wayS
 dsimp only
 split<;>split<;>simp
theorem Fine.waves{n:Int}:∀(L:List Nat) (N:Nat) (s:RunS),Fine N s->s.answers≠ []->(∀k∈L,1<=k/\k < s.W.length)->Fine (N+L.length) (L.foldl (waveS n) s):=by
 intro L
 induction L with
 |nil=>intro N s h _ _;exact h
 |cons k r ih=>
  intro N s h ha hL
  have hk:=hL k (List.mem_cons_self ..)
  obtain⟨e1,e2,-⟩:=sendS_rest s {msg0 with src:=0,dst:=k,kind:=6,round:=n}
  have hs:Fine (N+1) (waveS n s k):=h.send (i:=0) (j:=k) (by omega) hk.2 (fun n=>⟨rfl,rfl,by omega,rfl,by dsimp only;decide,fun e=>by simp at e,fun _=>ha,fun _=>rfl,fun e=>by simp at e,⟨by show(0:Int)<=0;omega,by show(0:Int)<=_;omega,by show(0:Int)<=0;omega,by show(0:Int)<=_;omega,by show _<=(0:Int);omega,by show(0:Int)<=_;omega⟩⟩)
  have:=ih (N+1) (waveS n s k) hs (by show(sendS _ _).answers≠ [];rw[e1];exact ha) (fun a b=>by show 1<=a/\a < (sendS _ _).W.length;rw[e2];exact hL a (List.mem_cons_of_mem _ b))
  rw[List.length_cons,List.foldl_cons,show N+(r.length+1)=N+1+r.length by omega]
  exact this
theorem Fine.ring{N:Nat}{s:RunS}(h:Fine N s):Fine (N+1) (ringS s).1:=by
 have h1:=h.more (Nat.le_succ N)
 have h2:=h.two
 have hl:=h.len
 unfold ringS
 split
 ·exact h1
 ·rename_i x hx
  have hxo:=h.works x (List.mem_of_getElem? hx)
  split
  ·exact h1
  ·split
   ·exact h1.reflags _ _ _
   ·refine Fine.send (h.reworker 0 (x:={x with black:=false,has:=false}) ⟨hxo.few,hxo.good,hxo.sent,hxo.came,hxo.tok⟩ (Nat.le_refl _)) (i:=0) (j:=(s.workers - 1).toNat) (by simp;omega) (by simp;omega) (fun n=>⟨rfl,by show s.workers - 1=_;omega,by omega,rfl,by dsimp only;decide,fun e=>by simp at e,fun e=>by simp at e,fun e=>by simp at e,fun e=>by simp at e,⟨by show(0:Int)<=0;omega,by show(0:Int)<=_;omega,by show(0:Int)<=0;omega,by show(0:Int)<=_;omega,by show _<=(0:Int);omega,by show(0:Int)<=_;omega⟩⟩)
theorem Fine.check{N:Nat}{s:RunS}(h:Fine N s)(hN:N<=1000000000):Fine (N+6) (checkS s).1:=by
 have h1:=h.more (Nat.le_add_right N 6)
 unfold checkS
 split
 ·exact h1
 ·split
  ·exact h.ring.more (by omega)
  ·unfold wavesS
   split
   ·exact h1
   ·rename_i x hx
    have hxo:=h.works x (List.mem_of_getElem? hx)
    split
    ·exact h1
    ·split
     ·exact h1.reflags _ _ _
     ·have h2:Fine (N+1) {s with answers:=s.answers++ [⟨0,0,0,true⟩]}:=h.reans (by have:=h.alen;simp;omega) (by simp) (fun a ha=>by
       rcases List.mem_append.1 ha with e|e
       ·exact(h.ans a e).more (Nat.le_succ N)
       ·rw[List.mem_singleton.1 e];exact⟨by dsimp only;omega,by dsimp only;omega,by dsimp only;omega⟩) (Nat.le_succ N)
      have hsn:=hxo.sent
      have hcm:=hxo.came
      have h3:=h2.noted (a:=x.sent) (b:=x.came) true (by omega) (by omega)
      have hne:(notedS {s with answers:=s.answers++ [⟨0,0,0,true⟩]} x.sent x.came true).answers≠ []:=by
       unfold notedS
       split<;>simp
      have hwl:(notedS {s with answers:=s.answers++ [⟨0,0,0,true⟩]} x.sent x.came true).W.length=s.W.length:=by
       unfold notedS
       split<;>rfl
      have h5:=h.five
      have hl:=h.len
      refine(Fine.waves (List.range' 1 (s.W.length - 1)) (N+1+1) _ h3 hne (fun k hk=> ?_)).more (by rw[List.length_range'];omega)
      rw[hwl]
      have:=List.mem_range'_1.1 hk
      omega
theorem Fine.new{workers room mode kind arg:Int}{ks:List KindS}(hc:cfgB workers room mode=true)(hp:progB ks kind arg=true):Fine 0 (newS workers room mode ks kind arg):=by
 simp[cfgB]at hc
 have hr:0<=kind/\kind < ks.length/\0<=arg/\arg<=12:=by
  have:=hp
  simp[progB,rangeB,numB]at this
  omega
 have hlen:(newS workers room mode ks kind arg).W.length=workers.toNat:=by simp[newS];omega
 have hL:∀ls∈(newS workers room mode ks kind arg).links,ls=List.replicate workers.toNat link0:=fun ls h=>List.eq_of_mem_replicate h
 refine⟨?_,hc.1.1.1.1,hc.1.1.1.2,?_,fun ls h=> ?_,Nat.zero_le _,hc.1.1.2,hc.1.2,hp,fun x hx=> ?_,fun i j hi hj=> ?_,fun m hm=>by simp[newS]at hm,Nat.zero_le _,Nat.zero_le _,fun a ha=>by simp[newS]at ha⟩
 ·rw[hlen];show(workers.toNat:Int)=workers;omega
 ·rw[hlen];simp[newS]
 ·rw[hlen,hL ls h];simp
 ·rcases List.mem_cons.1 hx with e|e
  ·subst e
   refine⟨by simp,fun t ht=> ?_,⟨Int.le_refl _,Int.le_refl _⟩,⟨Int.le_refl _,Int.le_refl _⟩,⟨Int.le_refl _,Int.le_refl _⟩⟩
   simp at ht
   subst ht
   refine⟨⟨hr.1,hr.2.1,hr.2.2.1,?_⟩,hr.2.2.2⟩
   show(((⟨#[]⟩:ByteArray).size:Nat):Int)+arg<=12
   have:(⟨#[]⟩:ByteArray).size=0:=rfl
   rw[this];omega
  ·rw[List.eq_of_mem_replicate e]
   exact worker0_ok _ _
 ·have:linkOf (newS workers room mode ks kind arg) i j=link0:=by
   unfold linkOf
   rw[hlen]at hi hj
   simp[newS,hi,hj]
  rw[this]
  exact⟨fun n m e=>by simp[link0]at e,Nat.le_refl _,⟨Int.le_refl _,Int.le_refl _⟩,⟨Int.le_refl _,Int.le_refl _⟩,fun n hn=>by simp[link0]at hn,Nat.le_refl _⟩
theorem sum_set{α:Type}(g:α->Nat):∀(l:List α) (i:Nat) (x y:α),l[i]?= some y->((l.set i x).map g).sum+g y=(l.map g).sum+g x
 |[],i,x,y,h=>by simp at h
 |a :: r,0,x,y,h=>by
  simp at h
  subst h
  simp
  omega
 |a :: r,i+1,x,y,h=>by
  have:=sum_set g r i x y (by simpa using h)
  rw[List.set_cons_succ,List.map_cons,List.map_cons,List.sum_cons,List.sum_cons]
  omega
def linkSum(f:MsgS->Nat)(l:LinkS):Nat:=((l.all.drop l.came.toNat).map f).sum
def total(f:MsgS->Nat)(s:RunS):Nat:=(s.links.map fun ls=>(ls.map (linkSum f)).sum).sum
theorem total_set(f:MsgS->Nat){s:RunS}{i j:Nat}(l:LinkS)(hl:s.links.length=s.W.length)(hr:∀ls∈s.links,ls.length=s.W.length)(hi:i < s.W.length)(hj:j < s.W.length):total f (setLink s i j l)+linkSum f (linkOf s i j)=total f s+linkSum f l:=by
 have h1:s.links[i]?= some (s.links[i]'(by omega)):=List.getElem?_eq_getElem _
 have h2:=hr _ (List.mem_of_getElem? h1)
 have h3:(s.links[i]'(by omega))[j]?= some ((s.links[i]'(by omega))[j]'(by omega)):=List.getElem?_eq_getElem _
 have e1:=sum_set (linkSum f) _ j l _ h3
 have e2:=sum_set (fun ls=>(ls.map (linkSum f)).sum) s.links i ((s.links[i]'(by omega)).set j l) _ h1
 have e3:linkOf s i j=(s.links[i]'(by omega))[j]'(by omega):=by
  unfold linkOf
  rw[h1,Option.getD_some,h3,Option.getD_some]
 unfold total setLink
 dsimp only
 rw[h1,Option.getD_some,e3]
 omega
theorem total_congr(f:MsgS->Nat){s s':RunS}(h:s.links=s'.links):total f s=total f s':=by
 unfold total
 rw[h]
theorem total_send(f:MsgS->Nat){N:Nat}{s:RunS}(h:Fine N s)(m:MsgS)(hi:m.src.toNat < s.W.length)(hj:m.dst.toNat < s.W.length):∃n,total f (sendS s m)=total f s+f {m with no:=n}:=by
 have hl:=h.links _ _ hi hj
 have e:=total_set f {linkOf s m.src.toNat m.dst.toNat with all:=(linkOf s m.src.toNat m.dst.toNat).all++ [{m with no:=(linkOf s m.src.toNat m.dst.toNat).all.length+1}]} h.llen h.lrow hi hj
 refine⟨(linkOf s m.src.toNat m.dst.toNat).all.length+1,?_⟩
 have e2:total f (sendS s m)=total f (setLink s m.src.toNat m.dst.toNat {linkOf s m.src.toNat m.dst.toNat with all:=(linkOf s m.src.toNat m.dst.toNat).all++ [{m with no:=(linkOf s m.src.toNat m.dst.toNat).all.length+1}]}):=by
  apply total_congr
  unfold sendS wayS
  dsimp only
  split<;>split<;>rfl
 have e3:linkSum f {linkOf s m.src.toNat m.dst.toNat with all:=(linkOf s m.src.toNat m.dst.toNat).all++ [{m with no:=(linkOf s m.src.toNat m.dst.toNat).all.length+1}]}=linkSum f (linkOf s m.src.toNat m.dst.toNat)+f {m with no:=(linkOf s m.src.toNat m.dst.toNat).all.length+1}:=by
  unfold linkSum
  dsimp only
  rw[List.drop_append_of_le_length (by have:=hl.came;omega)]
  simp
 rw[e2]
 omega
theorem total_step(f:MsgS->Nat){N:Nat}{s:RunS}(h:Fine N s){i j:Nat}(hi:i < s.W.length)(hj:j < s.W.length){m:MsgS}(hm:(linkOf s i j).all[(linkOf s i j).came.toNat]?= some m):total f (setLink s i j {linkOf s i j with came:=(linkOf s i j).came+1})+f m=total f s:=by
 have hl:=h.links _ _ hi hj
 have e:=total_set f {linkOf s i j with came:=(linkOf s i j).came+1} h.llen h.lrow hi hj
 have e3:linkSum f (linkOf s i j)=f m+linkSum f {linkOf s i j with came:=(linkOf s i j).came+1}:=by
  unfold linkSum
  dsimp only
  have h0:=hl.came
  obtain⟨hlt,hme⟩:=List.getElem?_eq_some_iff.1 hm
  rw[show((linkOf s i j).came+1).toNat=(linkOf s i j).came.toNat+1 by omega,List.drop_eq_getElem_cons hlt,hme]
  simp
 omega
def tasksSum(g:TaskS->Nat)(s:RunS):Nat:=(s.W.map fun x=>(x.tasks.map g).sum).sum
theorem tasksSum_set(g:TaskS->Nat){s:RunS}{i:Nat}{x x':WorkerS}(hx:s.W[i]?= some x):tasksSum g {s with W:=s.W.set i x'}+(x.tasks.map g).sum=tasksSum g s+(x'.tasks.map g).sum:=sum_set (fun x=>(x.tasks.map g).sum) s.W i x' x hx
theorem sum_append{α:Type}(g:α->Nat)(a b:List α):((a++b).map g).sum=(a.map g).sum+(b.map g).sum:=by simp
structure Tree(ks:List KindS)(g:TaskS->Nat)(o:ByteArray->Nat):Prop where
 one:∀t,Good ks t->g t=o t.id+((children ks t).map g).sum
def weigh(g:TaskS->Nat)(o:ByteArray->Nat)(m:MsgS):Nat:=if m.kind=2 then g m.t else if m.kind=4 then o m.v.1 else 0
def mass(g:TaskS->Nat)(o:ByteArray->Nat)(s:RunS):Nat:=
 tasksSum g s+(s.values.map fun v=>o v.1).sum+total (weigh g o) s
theorem putS_sum(o:ByteArray×Int->Nat):∀(l:List (ByteArray×Int)) (x:ByteArray×Int),((putS l x).map o).sum=(l.map o).sum+o x
 |[],x=>by simp[putS]
 |y :: r,x=>by
  unfold putS
  split
  ·simp;omega
  ·have:=putS_sum o r x
   simp
   omega
theorem tasksSum_congr(g:TaskS->Nat){s s':RunS}(h:s.W=s'.W):tasksSum g s=tasksSum g s':=by
 unfold tasksSum
 rw[h]
theorem sendS_tasks(g:TaskS->Nat)(s:RunS)(m:MsgS)(hi:m.src.toNat < s.W.length):tasksSum g (sendS s m)=tasksSum g s/\(sendS s m).values=s.values:=by
 have hx:s.W[m.src.toNat]?= some (s.W[m.src.toNat]'hi):=List.getElem?_eq_getElem _
 have e:=tasksSum_set g (s:=s) (x':={s.W[m.src.toNat]?.getD worker0 with sent:=(s.W[m.src.toNat]?.getD worker0).sent+1}) hx
 have e1:(s.W[m.src.toNat]?.getD worker0).tasks=(s.W[m.src.toNat]'hi).tasks:=by rw[hx,Option.getD_some]
 rw[show({s.W[m.src.toNat]?.getD worker0 with sent:=(s.W[m.src.toNat]?.getD worker0).sent+1}:WorkerS).tasks=(s.W[m.src.toNat]'hi).tasks from e1]at e
 have e':=Nat.add_right_cancel e
 unfold sendS wayS
 dsimp only
 split<;>split
 ·exact⟨(tasksSum_congr g rfl).trans e',rfl⟩
 ·exact⟨(tasksSum_congr g rfl).trans e',rfl⟩
 ·exact⟨rfl,rfl⟩
 ·exact⟨rfl,rfl⟩
theorem mass_send(g:TaskS->Nat)(o:ByteArray->Nat){N:Nat}{s:RunS}(h:Fine N s)(m:MsgS)(hi:m.src.toNat < s.W.length)(hj:m.dst.toNat < s.W.length):mass g o (sendS s m)=mass g o s+weigh g o m:=by
 obtain⟨n,e⟩:=total_send (weigh g o) h m hi hj
 obtain⟨e1,e2⟩:=sendS_tasks g s m hi
 unfold mass
 rw[e1,e2]
 have:weigh g o {m with no:=n}=weigh g o m:=rfl
 rw[this]at e
 show _+total (weigh g o) (sendS s m)=_+total (weigh g o) s+_
 omega
theorem mass_work{ks:List KindS}{g:TaskS->Nat}{o:ByteArray->Nat}{N:Nat}{s:RunS}(h:Fine N s)(hk:s.ks=ks)(hT:Tree ks g o)(i:Int):mass g o (workS s i).1=mass g o s:=by
 subst hk
 unfold workS
 split
 ·rfl
 ·rename_i hw
  obtain⟨h0,hlt⟩:=workerE_range hw
  obtain⟨hil,hie⟩:=h.nat h0 hlt
  split
  ·rfl
  ·rename_i x hx
   have hxo:=h.works x (List.mem_of_getElem? hx)
   split
   ·rfl
   ·rename_i t ht
    have htm:t∈x.tasks:=List.mem_of_getLast? ht
    have hg:=hT.one t (hxo.good t htm).1
    split
    ·rfl
    ·rename_i hroom
     have hsum:(x.tasks.map g).sum=(x.tasks.dropLast.map g).sum+g t:=by
      have hne:x.tasks≠ []:=fun e=>by rw[e]at htm;simp at htm
      have e:=List.dropLast_concat_getLast hne
      have e2:x.tasks.getLast hne=t:=by
       have:=List.getLast?_eq_some_getLast hne
       rw[this]at ht
       exact Option.some.inj ht
      rw[e2]at e
      conv=>lhs;rw[<-e]
      rw[sum_append]
      simp
     have e1:=tasksSum_set g (s:=s) (x':={x with tasks:=x.tasks.dropLast++children s.ks t}) hx
     dsimp only at e1
     rw[sum_append,hsum,hg]at e1
     dsimp only
     split
     ·have a1:mass g o {s with W:=s.W.set i.toNat {x with tasks:=x.tasks.dropLast++children s.ks t},values:=putS s.values (t.id,valueOf s.ks t)}=tasksSum g {s with W:=s.W.set i.toNat {x with tasks:=x.tasks.dropLast++children s.ks t}}+((putS s.values (t.id,valueOf s.ks t)).map fun v=>o v.1).sum+total (weigh g o) s:=rfl
      have a2:mass g o s=tasksSum g s+(s.values.map fun v=>o v.1).sum+total (weigh g o) s:=rfl
      rw[putS_sum]at a1
      dsimp only at a1
      show mass g o {s with W:=s.W.set i.toNat {x with tasks:=x.tasks.dropLast++children s.ks t},values:=putS s.values (t.id,valueOf s.ks t)}=_
      omega
     ·rename_i hi0
      have hwk:WorkerOK s.ks N {x with tasks:=x.tasks.dropLast++children s.ks t}:=by
       refine⟨?_,fun c hc=> ?_,hxo.sent,hxo.came,hxo.tok⟩
       ·have:=h.rmax
        have:x.tasks.length≠0:=fun e=>by rw[List.length_eq_zero_iff]at e;rw[e]at htm;simp at htm
        simp
        omega
       ·rcases List.mem_append.1 hc with e|e
        ·exact hxo.good c ((List.dropLast_sublist _).subset e)
        ·exact childrenFrom_good h.prog (hxo.good t htm) c e
      have h2:=h.two
      have hlen:=h.len
      have b:=mass_send g o (h.reworker i.toNat hwk (Nat.le_refl _)) {msg0 with src:=i,dst:=0,kind:=4,v:=(t.id,valueOf s.ks t)} (by simpa using hil) (by simp;omega)
      rw[b]
      have a1:mass g o {s with W:=s.W.set i.toNat {x with tasks:=x.tasks.dropLast++children s.ks t}}=tasksSum g {s with W:=s.W.set i.toNat {x with tasks:=x.tasks.dropLast++children s.ks t}}+(s.values.map fun v=>o v.1).sum+total (weigh g o) s:=rfl
      have a2:mass g o s=tasksSum g s+(s.values.map fun v=>o v.1).sum+total (weigh g o) s:=rfl
      have a3:weigh g o {msg0 with src:=i,dst:=0,kind:=4,v:=(t.id,valueOf s.ks t)}=o t.id:=by simp[weigh]
      omega
theorem mass_came{g:TaskS->Nat}{o:ByteArray->Nat}{N:Nat}{s:RunS}(h:Fine N s){i j n:Nat}{m:MsgS}(hi:i < s.W.length)(hj:j < s.W.length)(hm:MsgOK s.ks (s.answers≠ []) N i j n m):mass g o (cameS s m)=mass g o s+weigh g o m:=by
 have hs0:=hm.src
 have hd0:=hm.dst
 have hx:s.W[m.dst.toNat]?= some (s.W[m.dst.toNat]'(by omega)):=List.getElem?_eq_getElem _
 have a2:mass g o s=tasksSum g s+(s.values.map fun v=>o v.1).sum+total (weigh g o) s:=rfl
 unfold cameS
 dsimp only
 rw[hx,Option.getD_some]
 generalize s.W[m.dst.toNat]'_=x at hx ⊢
 have hxo:=h.works x (List.mem_of_getElem? hx)
 have same:∀x':WorkerS,x'.tasks=x.tasks->tasksSum g {s with W:=s.W.set m.dst.toNat x'}=tasksSum g s:=fun x' e=>by
  have:=tasksSum_set g (x':=x') hx
  rw[e]at this
  omega
 split
 ·rename_i h1
  have w0:weigh g o m=0:=by simp[weigh,h1]
  split
  ·have b:=mass_send g o h {msg0 with src:=m.dst,dst:=m.src,kind:=3} (by show m.dst.toNat < _;omega) (by show m.src.toNat < _;omega)
   rw[b,w0]
   simp[weigh]
  ·rename_i t r ht
   have hwk:WorkerOK s.ks N {x with tasks:=r}:=⟨by have:=hxo.few;rw[ht]at this;simp at this;dsimp only;omega,fun c hc=>hxo.good c (by rw[ht];exact List.mem_cons_of_mem _ hc),hxo.sent,hxo.came,hxo.tok⟩
   have b:=mass_send g o (h.reworker m.dst.toNat hwk (Nat.le_refl _)) {msg0 with src:=m.dst,dst:=m.src,kind:=2,t:=t} (by show m.dst.toNat < _;simp;omega) (by show m.src.toNat < _;simp;omega)
   rw[b,w0]
   have e1:=tasksSum_set g (s:=s) (x':={x with tasks:=r}) hx
   rw[ht]at e1
   simp only[List.map_cons,List.sum_cons]at e1
   have a1:mass g o {s with W:=s.W.set m.dst.toNat {x with tasks:=r}}=tasksSum g {s with W:=s.W.set m.dst.toNat {x with tasks:=r}}+(s.values.map fun v=>o v.1).sum+total (weigh g o) s:=rfl
   have a3:weigh g o {msg0 with src:=m.dst,dst:=m.src,kind:=2,t:=t}=g t:=by simp[weigh]
   omega
 ·split
  ·rename_i h2
   have e1:=tasksSum_set g (s:=s) (x':={x with came:=x.came+1,black:=true,asked:=false,tasks:=x.tasks++ [m.t]}) hx
   rw[sum_append]at e1
   simp only[List.map_cons,List.map_nil,List.sum_cons,List.sum_nil]at e1
   have a1:mass g o {s with W:=s.W.set m.dst.toNat {x with came:=x.came+1,black:=true,asked:=false,tasks:=x.tasks++ [m.t]}}=tasksSum g {s with W:=s.W.set m.dst.toNat {x with came:=x.came+1,black:=true,asked:=false,tasks:=x.tasks++ [m.t]}}+(s.values.map fun v=>o v.1).sum+total (weigh g o) s:=rfl
   have a3:weigh g o m=g m.t:=by simp[weigh,h2]
   omega
  ·rename_i h2
   split
   ·rename_i h3
    have a1:mass g o {s with W:=s.W.set m.dst.toNat {x with asked:=false}}=tasksSum g {s with W:=s.W.set m.dst.toNat {x with asked:=false}}+(s.values.map fun v=>o v.1).sum+total (weigh g o) s:=rfl
    have a3:weigh g o m=0:=by simp[weigh,h3]
    have:=same {x with asked:=false} rfl
    omega
   ·rename_i h3
    split
    ·rename_i h4
     have a1:mass g o {s with W:=s.W.set m.dst.toNat {x with came:=x.came+1,black:=true},values:=putS s.values m.v}=tasksSum g {s with W:=s.W.set m.dst.toNat {x with came:=x.came+1,black:=true}}+((putS s.values m.v).map fun v=>o v.1).sum+total (weigh g o) s:=rfl
     have a3:weigh g o m=o m.v.1:=by simp[weigh,h4]
     have:=same {x with came:=x.came+1,black:=true} rfl
     rw[putS_sum]at a1
     omega
    ·rename_i h4
     have a3:weigh g o m=0:=by simp[weigh,h2,h4]
     split
     ·have a1:mass g o {s with W:=s.W.set m.dst.toNat {x with has:=true,token:=m},around:=s.around||m.dst==0}=tasksSum g {s with W:=s.W.set m.dst.toNat {x with has:=true,token:=m}}+(s.values.map fun v=>o v.1).sum+total (weigh g o) s:=rfl
      have:=same {x with has:=true,token:=m} rfl
      omega
     ·split
      ·have b:=mass_send g o h {msg0 with src:=m.dst,dst:=0,kind:=7,round:=m.round,sent:=x.sent,came:=x.came,idle:=x.tasks.isEmpty} (by show m.dst.toNat < _;omega) (by show(0:Int).toNat < _;simp;omega)
       rw[b,a3]
       simp[weigh]
      ·split
       ·rw[a3]
        unfold notedS
        split<;>rfl
       ·rw[a3];rfl
theorem mass_congr(g:TaskS->Nat)(o:ByteArray->Nat){s s':RunS}(h1:s.links=s'.links)(h2:tasksSum g s=tasksSum g s')(h3:s.values=s'.values):mass g o s=mass g o s':=by
 unfold mass
 rw[h2,h3,total_congr _ h1]
theorem wayS_rest(s:RunS)(m:MsgS):(wayS s m).links=s.links/\(wayS s m).W=s.W/\(wayS s m).values=s.values:=by
 unfold wayS
 split<;>exact⟨rfl,rfl,rfl⟩
theorem mass_way(g:TaskS->Nat)(o:ByteArray->Nat)(s:RunS)(m:MsgS):mass g o (wayS s m)=mass g o s:=
 mass_congr g o (wayS_rest s m).1 (tasksSum_congr g (wayS_rest s m).2.1) (wayS_rest s m).2.2
theorem mass_relink(g:TaskS->Nat)(o:ByteArray->Nat){N:Nat}{s:RunS}(h:Fine N s){i j:Nat}(hi:i < s.W.length)(hj:j < s.W.length){l:LinkS}(ha:l.all=(linkOf s i j).all)(hc:l.came=(linkOf s i j).came):mass g o (setLink s i j l)=mass g o s:=by
 have e:=total_set (weigh g o) l h.llen h.lrow hi hj
 have e2:linkSum (weigh g o) l=linkSum (weigh g o) (linkOf s i j):=by
  unfold linkSum
  rw[ha,hc]
 have a1:mass g o (setLink s i j l)=tasksSum g s+(s.values.map fun v=>o v.1).sum+total (weigh g o) (setLink s i j l):=rfl
 have a2:mass g o s=tasksSum g s+(s.values.map fun v=>o v.1).sum+total (weigh g o) s:=rfl
 omega
theorem mass_steal{g:TaskS->Nat}{o:ByteArray->Nat}{N:Nat}{s:RunS}(h:Fine N s)(i v:Int):mass g o (stealS s i v).1=mass g o s:=by
 unfold stealS
 split
 ·rfl
 ·rename_i hi
  split
  ·rfl
  ·rename_i hv
   split
   ·rfl
   ·obtain⟨hi0,hi1⟩:=workerE_range hi
    obtain⟨hv0,hv1⟩:=workerE_range hv
    obtain⟨hil,hie⟩:=h.nat hi0 hi1
    obtain⟨hvl,hve⟩:=h.nat hv0 hv1
    split
    ·rfl
    ·rename_i x hx
     have hxo:=h.works x (List.mem_of_getElem? hx)
     split
     ·rfl
     ·have b:=mass_send g o (h.reworker i.toNat (x:={x with asked:=true}) ⟨hxo.few,hxo.good,hxo.sent,hxo.came,hxo.tok⟩ (Nat.le_refl _)) {msg0 with src:=i,dst:=v,kind:=1} (by simpa using hil) (by simpa using hvl)
      rw[b]
      have e:=tasksSum_set g (s:=s) (x':={x with asked:=true}) hx
      dsimp only at e
      have a1:=mass_congr g o (s:={s with W:=s.W.set i.toNat {x with asked:=true}}) (s':=s) rfl (by omega) rfl
      rw[a1]
      simp[weigh]
theorem mass_drop{g:TaskS->Nat}{o:ByteArray->Nat}(s:RunS)(k:Int):mass g o (dropS s k).1=mass g o s:=by
 unfold dropS
 split<;>rfl
theorem mass_twice{g:TaskS->Nat}{o:ByteArray->Nat}(s:RunS)(k:Int):mass g o (twiceS s k).1=mass g o s:=by
 unfold twiceS
 split
 ·rfl
 ·exact mass_way g o _ _
theorem mass_tick{g:TaskS->Nat}{o:ByteArray->Nat}(s:RunS)(i:Int):mass g o (tickS s i).1=mass g o s:=by
 unfold tickS
 split
 ·rfl
 ·have key:∀(L:List LinkS) (s:RunS),mass g o (L.foldl againS s)=mass g o s:=by
   intro L
   induction L with
   |nil=>intro s;rfl
   |cons l r ih=>
    intro s
    rw[List.foldl_cons,ih]
    unfold againS
    split
    ·exact mass_way g o _ _
    ·rfl
  exact key _ _
theorem mass_step{g:TaskS->Nat}{o:ByteArray->Nat}{N:Nat}{s:RunS}(h:Fine N s){i j:Nat}(hi:i < s.W.length)(hj:j < s.W.length)(hb:nextB (linkOf s i j)=true):mass g o (stepS s i j)=mass g o s:=by
 have hl:=h.links i j hi hj
 have hmem:(linkOf s i j).came+1∈(linkOf s i j).kept:=by
  unfold nextB at hb
  obtain⟨y,hy,hye⟩:=List.any_eq_true.1 hb
  have:y=(linkOf s i j).came+1:=by simpa using hye
  rw[<-this];exact hy
 have hk:=hl.kept _ hmem
 have hc:=hl.came
 have hs1:Fine N (setLink s i j {linkOf s i j with came:=(linkOf s i j).came+1}):=h.relink hi hj (L:=[]) (by simp) ⟨hl.msgs,hl.all,hl.known,by dsimp only;omega,fun n hn=>by have:=hl.kept n hn;dsimp only;omega,hl.klen⟩ (Nat.le_refl _)
 have hg:(linkOf s i j).all[(linkOf s i j).came.toNat]?= some ((linkOf s i j).all[(linkOf s i j).came.toNat]'(by omega)):=List.getElem?_eq_getElem _
 have hm:=hl.msgs _ _ hg
 have e1:=total_step (weigh g o) h hi hj hg
 have e2:=mass_came (g:=g) (o:=o) hs1 hi hj hm
 have a1:mass g o (setLink s i j {linkOf s i j with came:=(linkOf s i j).came+1})=tasksSum g s+(s.values.map fun v=>o v.1).sum+total (weigh g o) (setLink s i j {linkOf s i j with came:=(linkOf s i j).came+1}):=rfl
 have a2:mass g o s=tasksSum g s+(s.values.map fun v=>o v.1).sum+total (weigh g o) s:=rfl
 unfold stepS
 rw[hg,Option.getD_some,e2]
 omega
theorem Fine.step{N:Nat}{s:RunS}(h:Fine N s)(hN:N<=90000000){i j:Nat}(hi:i < s.W.length)(hj:j < s.W.length)(hb:nextB (linkOf s i j)=true):Fine (N+1) (stepS s i j)/\linkOf (stepS s i j) i j={linkOf s i j with came:=(linkOf s i j).came+1}/\(stepS s i j).W.length=s.W.length/\(linkOf s i j).came+1∈(linkOf s i j).kept:=by
 have hl:=h.links i j hi hj
 have hmem:(linkOf s i j).came+1∈(linkOf s i j).kept:=by
  unfold nextB at hb
  obtain⟨y,hy,hye⟩:=List.any_eq_true.1 hb
  have:y=(linkOf s i j).came+1:=by simpa using hye
  rw[<-this];exact hy
 have hk:=hl.kept _ hmem
 have hc:=hl.came
 have hs1:Fine N (setLink s i j {linkOf s i j with came:=(linkOf s i j).came+1}):=h.relink hi hj (L:=[]) (by simp) ⟨hl.msgs,hl.all,hl.known,by dsimp only;omega,fun n hn=>by have:=hl.kept n hn;dsimp only;omega,hl.klen⟩ (Nat.le_refl _)
 have hg:(linkOf s i j).all[(linkOf s i j).came.toNat]?= some ((linkOf s i j).all[(linkOf s i j).came.toNat]'(by omega)):=List.getElem?_eq_getElem _
 have hm:=hl.msgs _ _ hg
 have hst:stepS s i j=cameS (setLink s i j {linkOf s i j with came:=(linkOf s i j).came+1}) ((linkOf s i j).all[(linkOf s i j).came.toNat]'(by omega)):=by
  unfold stepS
  rw[hg,Option.getD_some]
 obtain⟨hlk,hlw⟩:=cameS_link hs1 hi hj hm
 rw[<-hst]at hlk hlw
 rw[linkOf_set _ h.llen h.lrow hi hj,if_pos ⟨rfl,rfl⟩]at hlk
 exact⟨by rw[hst];exact hs1.came (by omega) hi hj hm,hlk,hlw,hmem⟩
theorem mass_come{g:TaskS->Nat}{o:ByteArray->Nat}{i j:Nat}:∀(f d N:Nat) (s:RunS),Fine N s->i < s.W.length->j < s.W.length->N+d<=90000000->(∀n∈(linkOf s i j).kept,n<=(linkOf s i j).came+d)->mass g o (comeS f s i j)=mass g o s:=by
 intro f
 induction f with
 |zero=>intro d N s _ _ _ _ _;rfl
 |succ f ih=>
  intro d N s h hi hj hN hd
  unfold comeS
  split
  ·rename_i hb
   obtain⟨h1,h2,h3,h4⟩:=h.step (by omega) hi hj hb
   have hd1:=hd _ h4
   rw[ih (d - 1) (N+1) _ h1 (by omega) (by omega) (by omega) (fun n hn=>by rw[h2]at hn ⊢;have:=hd n hn;dsimp only;omega)]
   exact mass_step h hi hj hb
  ·rfl
theorem mass_deliver{g:TaskS->Nat}{o:ByteArray->Nat}{N:Nat}{s:RunS}(h:Fine N s)(hN:N+5<=90000000)(k:Int):mass g o (deliverS s k).1=mass g o s:=by
 unfold deliverS
 split
 ·rfl
 ·rename_i hme
  obtain⟨h0,h1⟩:=messageE_range hme
  have hg:s.way[k.toNat]?= some (s.way[k.toNat]'(by omega)):=List.getElem?_eq_getElem _
  have hw:=h.ways _ (List.mem_of_getElem? hg)
  rw[hg]
  dsimp only[Option.getD_some]
  generalize s.way[k.toNat]=m at hw ⊢
  have hu:=h.unway k.toNat
  obtain⟨hsl,hse⟩:=h.nat hw.src.1 hw.src.2
  obtain⟨hdl,hde⟩:=h.nat hw.dst.1 hw.dst.2
  split
  ·split
   ·exact(mass_relink g o hu hdl hsl (l:={linkOf {s with way:=s.way.take k.toNat++s.way.drop (k.toNat+1)} m.dst.toNat m.src.toNat with known:=m.no}) rfl rfl).trans rfl
   ·rfl
  ·rename_i hk0
   obtain⟨n,hn,hne⟩:=hw.sent hk0
   have hnl:=(List.getElem?_eq_some_iff.1 hne).1
   have hkp:=hu.keep hsl hdl (n:=m.no) (by rw[hn];show(n:Int)+1<=((linkOf s m.src.toNat m.dst.toNat).all.length:Int);omega)
   rw[mass_way,mass_come _ 4 _ _ hkp hsl hdl (by omega) (fun a ha=>((hkp.links _ _ hsl hdl).kept a ha).2.2)]
   refine(mass_relink g o hu hsl hdl ?_ ?_).trans rfl
   ·unfold keepS
    split<;>rfl
   ·unfold keepS
    split<;>rfl
theorem mass_pass{g:TaskS->Nat}{o:ByteArray->Nat}{N:Nat}{s:RunS}(h:Fine N s)(i:Int):mass g o (passS s i).1=mass g o s:=by
 unfold passS
 split
 ·rfl
 ·rename_i hw
  obtain⟨h0,hlt⟩:=workerE_range hw
  obtain⟨hil,hie⟩:=h.nat h0 hlt
  split
  ·rfl
  ·rename_i x hx
   split
   ·rfl
   ·rename_i hc
    have hi0:i≠0:=fun e=>hc (.inr (.inl e))
    have b:=mass_send g o h {msg0 with src:=i,dst:=i - 1,kind:=5,count:=x.token.count+x.sent - x.came,black:=x.token.black||x.black} hil (by show(i - 1).toNat < _;omega)
    have hW:(sendS s {msg0 with src:=i,dst:=i - 1,kind:=5,count:=x.token.count+x.sent - x.came,black:=x.token.black||x.black}).W=s.W:=sendS_W s _ (by dsimp only;decide)
    dsimp only
    rw[show mass g o s=mass g o s+weigh g o {msg0 with src:=i,dst:=i - 1,kind:=5,count:=x.token.count+x.sent - x.came,black:=x.token.black||x.black} by simp[weigh],<-b]
    refine mass_congr g o rfl ?_ rfl
    have e:=tasksSum_set g (s:=sendS s {msg0 with src:=i,dst:=i - 1,kind:=5,count:=x.token.count+x.sent - x.came,black:=x.token.black||x.black}) (x':={x with black:=false,has:=false}) (i:=i.toNat) (x:=x) (by rw[hW];exact hx)
    exact Nat.add_right_cancel e
theorem mass_waves{g:TaskS->Nat}{o:ByteArray->Nat}{n:Int}:∀(L:List Nat) (N:Nat) (s:RunS),Fine N s->s.answers≠ []->(∀k∈L,1<=k/\k < s.W.length)->mass g o (L.foldl (waveS n) s)=mass g o s:=by
 intro L
 induction L with
 |nil=>intro N s h _ _;rfl
 |cons k r ih=>
  intro N s h ha hL
  have hk:=hL k (List.mem_cons_self ..)
  obtain⟨e1,e2,-⟩:=sendS_rest s {msg0 with src:=0,dst:=k,kind:=6,round:=n}
  have hs:Fine (N+1) (waveS n s k):=h.waves [k] _ _ ha (fun a b=>by rw[List.mem_singleton.1 b];exact hk)
  rw[List.foldl_cons,ih (N+1) (waveS n s k) hs (by show(sendS _ _).answers≠ [];rw[e1];exact ha) (fun a b=>by show 1<=a/\a < (sendS _ _).W.length;rw[e2];exact hL a (List.mem_cons_of_mem _ b))]
  have b:=mass_send g o h {msg0 with src:=0,dst:=k,kind:=6,round:=n} (by show(0:Int).toNat < _;simp;omega) (by show(k:Int).toNat < _;simp;omega)
  exact b.trans (by simp[weigh])
theorem mass_check{g:TaskS->Nat}{o:ByteArray->Nat}{N:Nat}{s:RunS}(h:Fine N s)(hN:N<=1000000000):mass g o (checkS s).1=mass g o s:=by
 have h2:=h.two
 have hl:=h.len
 unfold checkS
 split
 ·rfl
 ·split
  ·unfold ringS
   split
   ·rfl
   ·rename_i x hx
    have hxo:=h.works x (List.mem_of_getElem? hx)
    split
    ·rfl
    ·split
     ·rfl
     ·have b:=mass_send g o (h.reworker 0 (x:={x with black:=false,has:=false}) ⟨hxo.few,hxo.good,hxo.sent,hxo.came,hxo.tok⟩ (Nat.le_refl _)) {msg0 with src:=0,dst:=s.workers - 1,kind:=5} (by show(0:Int).toNat < _;simp;omega) (by show(s.workers - 1).toNat < _;simp;omega)
      rw[b]
      have e:=tasksSum_set g (s:=s) (x':={x with black:=false,has:=false}) hx
      dsimp only at e
      rw[mass_congr g o (s:={s with W:=s.W.set 0 {x with black:=false,has:=false}}) (s':=s) rfl (by omega) rfl]
      simp[weigh]
  ·unfold wavesS
   split
   ·rfl
   ·rename_i x hx
    have hxo:=h.works x (List.mem_of_getElem? hx)
    split
    ·rfl
    ·split
     ·rfl
     ·have h3:Fine (N+1) {s with answers:=s.answers++ [⟨0,0,0,true⟩]}:=h.reans (by have:=h.alen;simp;omega) (by simp) (fun a ha=>by
       rcases List.mem_append.1 ha with e|e
       ·exact(h.ans a e).more (Nat.le_succ N)
       ·rw[List.mem_singleton.1 e];exact⟨by dsimp only;omega,by dsimp only;omega,by dsimp only;omega⟩) (Nat.le_succ N)
      have hsn:=hxo.sent
      have hcm:=hxo.came
      have h4:=h3.noted (a:=x.sent) (b:=x.came) true (by omega) (by omega)
      have hne:(notedS {s with answers:=s.answers++ [⟨0,0,0,true⟩]} x.sent x.came true).answers≠ []:=by
       unfold notedS
       split<;>simp
      have hwl:(notedS {s with answers:=s.answers++ [⟨0,0,0,true⟩]} x.sent x.came true).W.length=s.W.length:=by
       unfold notedS
       split<;>rfl
      refine(mass_waves (List.range' 1 (s.W.length - 1)) (N+1+1) _ h4 hne (fun k hk=> ?_)).trans ?_
      ·rw[hwl]
       have:=List.mem_range'_1.1 hk
       omega
      ·unfold notedS
       split<;>rfl
theorem mass_new{g:TaskS->Nat}{o:ByteArray->Nat}(workers room mode kind arg:Int)(ks:List KindS):mass g o (newS workers room mode ks kind arg)=g ⟨⟨#[]⟩,kind,arg⟩:=by
 have e:∀n:Nat,((List.replicate n worker0).map fun x=>(x.tasks.map g).sum).sum=0:=fun n=>by
  induction n with
  |zero=>rfl
  |succ n ih=>rw[List.replicate_succ,List.map_cons,List.sum_cons,ih];rfl
 have e2:∀n:Nat,((List.replicate n link0).map (linkSum (weigh g o))).sum=0:=fun n=>by
  induction n with
  |zero=>rfl
  |succ n ih=>rw[List.replicate_succ,List.map_cons,List.sum_cons,ih];rfl
 have e3:∀n k:Nat,((List.replicate n (List.replicate k link0)).map fun ls=>(ls.map (linkSum (weigh g o))).sum).sum=0:=fun n k=>by
  induction n with
  |zero=>rfl
  |succ n ih=>rw[List.replicate_succ,List.map_cons,List.sum_cons,ih,e2]
 unfold mass tasksSum total newS
 dsimp only
 rw[List.map_cons,List.sum_cons,e,e3]
 simp
end Go.Proofs.YtfanaanofjhlkaaGreatDoor
