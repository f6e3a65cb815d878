import Derived.Test.YtfanaanofjhlkaaGreatDoorMarkV
import Derived.Test.YtfanaanofjhlkaaGreatDoorRangeG
import Derived.Laws.AppendOwnNone
import Derived.Test.YtfanaanofjhlkaaGreatDoorRefKids
set_option maxHeartbeats 16000000
set_option maxRecDepth 100000
namespace Go.Proofs.YtfanaanofjhlkaaGreatDoor
open Go Go.RowKit Tryz
theorem oB{P:Program}{w:World}{ops:Array Oper}{rest:List Oper}{o:Oper}{a:Act}{Q:Exit->Act->World->Prop}(hgd:o.guard=none)(s x:Operand)(t:TypeId)
  (ho:o.op= .call {callee:= .builtin .append,args:=#[s,x],argTypes:=#[t,t]})
  (e:TypeId) (i:TypeInfo) (z:Value) (size bytes:Nat) (ht:P.underlying t=some (.slice e)) (hi:P.info? e=some i) (hz:i.zero=some z)
  (hsize:i.size=size) (hby:i.bytes=bytes) (hzs:z.cells.size=size) (hsz:0 < size) (hs:a.eval s= .slice none 0 0)
  (base:Nat) (lv:Value) (n:Nat) (xs:List Value) (hx:a.eval x=lv) (hown:w.ownsRow base e size lv n xs) (h1:∀u∈xs,u.oneCell'=true) (h63:n<=maxLen) (hbytes:n*bytes<=140737488355328)
  (h:∀v' w',w'.ownsRow w.heap.size e size v' n xs->aB (fun _=>False) w w'->wpList P ops Q rest (a.put o.dst v') w'):wpList P ops Q (o :: rest) a w:=by
 have hown':=hown;obtain⟨hl,hv⟩:=hown;rcases hv with⟨rfl,rfl⟩|⟨g,cap,cur,rfl,_⟩
 ·obtain rfl:xs=[]:=List.eq_nil_of_length_eq_zero (by simpa using hl)
  exact wpList_append_own_none hgd s x t ho w.heap.size e i size ht hi (.slice none 0 0) 0 [] hs (World.ownsRow_nil w _ e size) hx (h _ w (World.ownsRow_nil w _ e size) (aB.refl _ _))
 ·refine wpList_append_own w hgd s x t ho w.heap.size e i z size bytes ht hi hz hsize hby hzs hsz (.slice none 0 0) 0 [] hs (World.ownsRow_nil w _ e size) ⟨g,0,none⟩ n cap xs hx hl (fun j u hj=>hown'.cells (g:=g) rfl j u hj) h1 (by omega) (by rw[Nat.zero_add];exact hbytes) (a_ _) ?_
  intro v' w' hr hg _;exact h v' w' (by simpa using hr) (aB.grown hg (fun r e=>by cases e))
structure jF where
 t:TypeId
 sz:Nat
 el:Int->List Value
def gT:jF:=⟨92,2,fun N=>[.string ⟨#[]⟩,.int .i64 (-100000 - N)]⟩
def gR:jF:=⟨62,3,fun N=>[.string ⟨#[]⟩,.int .i64 0,.int .i64 (-N)]⟩
def gS:jF:=⟨124,15,fun N=>[.int .i64 0,.int .i64 0,.int .i64 (-N),.int .i64 0,.string ⟨#[]⟩,.int .i64 0,.int .i64 0,.string ⟨#[]⟩,.int .i64 0,.bool false,.bool false,.int .i64 0,.int .i64 0,.int .i64 0,.int .i64 0]⟩
def gH(S:jF)(W:World)(G:Nat->Nat->Prop)(v:Value)(N:Int):Prop:=
 ∃a n cap,v= .slice a n cap/\(n<=4611686018427387904/\0<=N/\N<=1000000000000000)/\∀j,j < n->∃g cs,a=some ⟨g,0,none⟩/\G g n/\aD W g S.t cs/\∀i u,(S.el N)[i]?= some u->cs[j*S.sz+i]?= some u
theorem gH.kept{S:jF}{X:Nat->Prop}{W W':World}{G G':Nat->Nat->Prop}{v:Value}{N:Int}(h:gH S W G v N)(k:aB X W W')(hx:∀g n cs,aD W g S.t cs->G g n->¬X g)(hg:∀g n cs,aD W g S.t cs->G g n->G' g n):gH S W' G' v N:=by
 obtain⟨a,n,cap,rfl,hn,h⟩:=h;refine⟨a,n,cap,rfl,hn,fun j hj=> ?_⟩;obtain⟨g,cs,h1,h2,h3,h4⟩:=h j hj;exact⟨g,cs,h1,hg g n cs h3 h2,h3.kept k (hx g n cs h3 h2),h4⟩
theorem gH.nil(S:jF)(W:World)(G:Nat->Nat->Prop)(N:Int)(h0:0<=N)(h1:N<=1000000000000000):gH S W G (.slice none 0 0) N:=⟨none,0,0,rfl,⟨by omega,h0,h1⟩,fun j hj=>absurd hj (by omega)⟩
theorem gH.grown{S:jF}{W W':World}{row:Option Nat}{n0:Nat}{G G':Nat->Nat->Prop}{v:Value}{N:Int}(h:gH S W G v N)(hgr:W.grownBy W' row)(hmk:(S.el N).length=S.sz)
  (hk:∀B cs,row=some B->aD W B S.t cs->∃cs',aD W' B S.t cs'/\∀j,j < n0*S.sz->cs'[j]?= cs[j]?) (hg:∀g n cs,aD W g S.t cs->G g n->(row=some g->n<=n0)/\G' g n):gH S W' G' v N:=by
 obtain⟨a,n,cap,rfl,hn,h⟩:=h;refine⟨a,n,cap,rfl,hn,fun j hj=> ?_⟩;obtain⟨g,cs,h1,h2,h3,h4⟩:=h j hj;obtain⟨h6,h7⟩:=hg g n cs h3 h2;by_cases hr:row=some g
 ·obtain⟨cs',k1,k2⟩:=hk g cs hr h3
  have:=h6 hr;refine⟨g,cs',h1,h7,k1,fun i u hi=>(k2 _ ?_).trans (h4 i u hi)⟩;have hi':i < S.sz:=by rw[<-hmk];exact(c_.1 hi).1
  have h8:(j+1)*S.sz<=n0*S.sz:=Nat.mul_le_mul_right _ (by omega);rw[Nat.succ_mul]at h8;omega
 ·exact⟨g,cs,h1,h7,(hgr.block g h3.lt (fun e=>hr e.symm)).trans h3,h4⟩
def fO(S:jF)(N:Int)(n:Nat):List Value:=(List.replicate n (S.el N)).flatten
theorem qC(S:jF)(N:Int)(n:Nat)(hmk:(S.el N).length=S.sz):(fO S N n).length=n*S.sz:=by
 simp[fO,hmk]
theorem qI(S:jF)(N:Int)(n:Nat):fO S N (n+1)=fO S N n++S.el N:=by
 unfold fO;rw[List.replicate_succ'];simp
theorem tJ(S:jF)(N:Int)(hmk:(S.el N).length=S.sz):∀(n j i:Nat) (u:Value),j < n->(S.el N)[i]?= some u->(fO S N n)[j*S.sz+i]?= some u
 |0,j,i,u,h,_=>absurd h (by omega)
 |n+1,j,i,u,h,hi=>by
  have hi':i < S.sz:=by rw[<-hmk];exact(c_.1 hi).1
  rw[qI];rcases Nat.lt_or_ge j n with hj|hj
  ·have:=tJ S N hmk n j i u hj hi
   rw[List.getElem?_append_left (c_.1 this).1];exact this
  ·obtain rfl:j=n:=by omega
   rw[i7 (by rw[qC S N j hmk];omega),qC S N j hmk];rw[show j*S.sz+i - j*S.sz=i from by omega];exact hi
theorem tA{S:jF}{W:World}{G:Nat->Nat->Prop}{v:Value}{n:Nat}{N:Int}(h:W.ownsRow 0 S.t S.sz v n (fO S N n))(hmk:(S.el N).length=S.sz)(hn:n<=4611686018427387904/\0<=N/\N<=1000000000000000)(hg:∀g,v.ownBlock=some g->G g n):gH S W G v N:=by
 obtain⟨_,h⟩:=h;rcases h with⟨rfl,rfl⟩|⟨g,cap,cur,rfl,_,hcur,_,_,_,htk⟩
 ·exact⟨none,0,0,rfl,hn,fun j hj=>absurd hj (by omega)⟩
 ·refine⟨_,n,cap,rfl,hn,fun j hj=>⟨g,cur,rfl,hg g rfl,hcur,fun i u hi=> ?_⟩⟩
  have h1:=tJ S N hmk n j i u hj hi;have h2:=(c_.1 h1).1;rw[qC S N n hmk]at h2;have e:cur[j*S.sz+i]?= (fO S N n)[j*S.sz+i]?:=by
   rw[<-htk,List.getElem?_take,if_pos h2];simp
  rw[e,h1]
theorem tZ(S:jF)(N:Int)(n:Nat)(hsz:0 < S.sz)(hmk:(S.el N).length=S.sz){xs:List Value}(hl:xs.length=n*S.sz)(h:∀j i,j < n->i < S.sz->xs[j*S.sz+i]?= (S.el N)[i]?):xs=fO S N n:=by
 refine List.ext_getElem? fun i=> ?_
 rcases Nat.lt_or_ge i (n*S.sz)with hi|hi
 ·have h1:i / S.sz < n:=(Nat.div_lt_iff_lt_mul hsz).2 hi
  have h2:i % S.sz < S.sz:=Nat.mod_lt _ hsz;have e:i / S.sz*S.sz+i % S.sz=i:=by rw[Nat.mul_comm];exact Nat.div_add_mod _ _
  obtain⟨u,hu⟩:∃u,(S.el N)[i % S.sz]?= some u:=⟨_,b_ (by omega)⟩;have h3:=h _ _ h1 h2;have h4:=tJ S N hmk n _ _ u h1 hu;rw[e]at h3 h4;rw[h3,h4,hu]
 ·rw[List.getElem?_eq_none (by omega),List.getElem?_eq_none (by rw[qC S N n hmk];omega)]
abbrev Bk:=Int×Value×Value×Value
def eD(bs:List Bk):List Value:=bs.flatMap fun x=>[.int .i64 x.1,x.2.1,x.2.2.1,x.2.2.2]
theorem tE(bs:List Bk)(N:Int)(v t m:Value):eD (bs++ [(N,v,t,m)])=eD bs++ [.int .i64 N,v,t,m]:=by simp[eD]
theorem aHd(bs:List Bk):∀(j:Nat) (x:Bk),bs[j]?= some x->(eD bs)[j*4]?= some (.int .i64 x.1)/\(eD bs)[j*4+1]?= some x.2.1/\(eD bs)[j*4+2]?= some x.2.2.1/\(eD bs)[j*4+3]?= some x.2.2.2:=by
 induction bs with
 |nil=>intro j x h;simp at h
 |cons y r ih=>
  intro j x h;cases j with
  |zero=>simp at h;subst h;exact⟨rfl,rfl,rfl,rfl⟩
  |succ j=>
   have:=ih j x (by simpa using h);have e:∀k,(eD (y :: r))[(j+1)*4+k]?= (eD r)[j*4+k]?:=fun k=>by
    show([Value.int .i64 y.1,y.2.1,y.2.2.1,y.2.2.2]++eD r)[(j+1)*4+k]?= _;rw[i7 (by simp;omega)]
    congr 1
    simp;omega
   exact⟨(e 0).trans this.1,(e 1).trans this.2.1,(e 2).trans this.2.2.1,(e 3).trans this.2.2.2⟩
def eT(W:World)(G:Nat->Nat->Prop)(x:Bk):Prop:=gH gT W G x.2.1 x.1/\gH gR W G x.2.2.1 x.1/\gH gS W G x.2.2.2 x.1
def lK(t:TypeId):Prop:=t=92\/t=62\/t=124
theorem eT.kept{X:Nat->Prop}{W W':World}{G G':Nat->Nat->Prop}{x:Bk}(h:eT W G x)(k:aB X W W')(hx:∀g n t cs,lK t->aD W g t cs->G g n->¬X g)(hg:∀g n t cs,lK t->aD W g t cs->G g n->G' g n):eT W' G' x:=
 ⟨h.1.kept k (fun g n cs=>hx g n _ cs (.inl rfl)) (fun g n cs=>hg g n _ cs (.inl rfl)),h.2.1.kept k (fun g n cs=>hx g n _ cs (.inr (.inl rfl))) (fun g n cs=>hg g n _ cs (.inr (.inl rfl))),h.2.2.kept k (fun g n cs=>hx g n _ cs (.inr (.inr rfl))) (fun g n cs=>hg g n _ cs (.inr (.inr rfl)))⟩
theorem lK.ne{t:TypeId}(h:lK t):t≠71/\t≠143:=by
 rcases h with rfl|rfl|rfl<;>decide
theorem jD{W:World}{B:Nat}{t t':TypeId}{cs cs':Array Value}(h:aD W B t cs)(h':aD W B t' cs'):t=t':=by
 have:=h.symm.trans h';simp at this;exact this.2
theorem gH.grown0{S S0:jF}{W W':World}{row:Option Nat}{G G':Nat->Nat->Prop}{v:Value}{N:Int}(h:gH S W G v N)(hgr:W.grownBy W' row)(hne:S.t≠S0.t)(hk:∀B t cs,row=some B->aD W B t cs->t=S0.t)(hg:∀g n cs,aD W g S.t cs->G g n->G' g n):gH S W' G' v N:=
 h.kept (aB.grown hgr (X:=fun b=>row=some b) (fun _ e=>e)) (fun g _ cs hb _ e=>hne (hk g _ cs e hb)) hg
theorem eT.grown{S0:jF}{W W':World}{row:Option Nat}{n0:Nat}{G G':Nat->Nat->Prop}{x:Bk}(h:eT W G x)(hgr:W.grownBy W' row)(hS:S0=gT\/S0=gR\/S0=gS)
  (hk:∀B t cs,row=some B->aD W B t cs->t=S0.t/\∃cs',aD W' B t cs'/\∀j,j < n0*S0.sz->cs'[j]?= cs[j]?) (hg:∀g n t cs,lK t->aD W g t cs->G g n->(row=some g->n<=n0)/\G' g n):eT W' G' x:=by
 obtain⟨h1,h2,h3⟩:=h;have hV:∀g n cs,aD W g gT.t cs->G g n->G' g n:=fun g n cs hb hG=>(hg g n _ cs (.inl rfl) hb hG).2
 have hT:∀g n cs,aD W g gR.t cs->G g n->G' g n:=fun g n cs hb hG=>(hg g n _ cs (.inr (.inl rfl)) hb hG).2
 have hM:∀g n cs,aD W g gS.t cs->G g n->G' g n:=fun g n cs hb hG=>(hg g n _ cs (.inr (.inr rfl)) hb hG).2
 have hk0:∀B t cs,row=some B->aD W B t cs->t=S0.t:=fun B t cs e hb=>(hk B t cs e hb).1
 have hk1:∀B cs,row=some B->aD W B S0.t cs->∃cs',aD W' B S0.t cs'/\∀j,j < n0*S0.sz->cs'[j]?= cs[j]?:=fun B cs e hb=>(hk B _ cs e hb).2
 rcases hS with rfl|rfl|rfl
 ·exact⟨h1.grown hgr rfl hk1 (fun g n cs hb hG=>hg g n _ cs (.inl rfl) hb hG),h2.grown0 hgr (by decide) hk0 hT,h3.grown0 hgr (by decide) hk0 hM⟩
 ·exact⟨h1.grown0 hgr (by decide) hk0 hV,h2.grown hgr rfl hk1 (fun g n cs hb hG=>hg g n _ cs (.inr (.inl rfl)) hb hG),h3.grown0 hgr (by decide) hk0 hM⟩
 ·exact⟨h1.grown0 hgr (by decide) hk0 hV,h2.grown0 hgr (by decide) hk0 hT,h3.grown hgr rfl hk1 (fun g n cs hb hG=>hg g n _ cs (.inr (.inr rfl)) hb hG)⟩
abbrev eA(N came:Int)(kV wV kT wT kM wM vA:Value):Array Value:=#[.int .i64 N,.int .i64 came,.bool false,kV,wV,kT,wT,kM,wM,vA]
def gC(F:Nat->Prop)(G:Nat->Nat->Prop)(W:World)(B:Nat)(N came:Int)(kV wV kT wT kM wM:Value)(bs:List Bk):Prop:=
 ∃vA,aD W B 71 (eA N came kV wV kT wT kM wM vA)/\W.ownsRow 0 143 4 vA bs.length (eD bs)/\F B/\(∀g,vA.ownBlock=some g->F g)/\∀x∈bs,eT W G x
theorem gC.kept{X F F':Nat->Prop}{G G':Nat->Nat->Prop}{W W':World}{B:Nat}{N came:Int}{kV wV kT wT kM wM:Value}{bs:List Bk}(h:gC F G W B N came kV wV kT wT kM wM bs)(k:aB X W W')(hx:∀g,g < W.heap.size->F g->¬X g)(hy:∀g n,g < W.heap.size->G g n->¬X g)
  (hf:∀g,g < W.heap.size->F g->F' g) (hg:∀g n,g < W.heap.size->G g n->G' g n):gC F' G' W' B N came kV wV kT wT kM wM bs:=by
 obtain⟨vA,h1,h2,h3,h4,h5⟩:=h;exact⟨vA,h1.kept k (hx B h1.lt h3),aP h2 k (fun g e=>hx g (h2.lt g e).2 (h4 g e)) (a_ _),hf B h1.lt h3,fun g e=>hf g (h2.lt g e).2 (h4 g e),fun x hxm=>(h5 x hxm).kept k (fun g n t cs _ hb=>hy g n hb.lt) (fun g n t cs _ hb=>hg g n hb.lt)⟩
def dR(W:World)(g o:Nat):List Value->World
 |[]=>W
 |u :: r=>dR (W.setCell ⟨g,o,none⟩ u) g (o+1) r
def iH(xs:List Value)(o:Nat):List Value->List Value
 |[]=>xs
 |u :: r=>iH (xs.set o u) (o+1) r
theorem vU:∀(us xs:List Value) (o:Nat),(iH xs o us).length=xs.length
 |[],_,_=>rfl
 |u :: r,xs,o=>by rw[iH,vU r];simp
theorem pG:∀(us xs:List Value) (o k:Nat),(k < o\/o+us.length<=k)->(iH xs o us)[k]?= xs[k]?
 |[],_,_,_,_=>rfl
 |u :: r,xs,o,k,h=>by
  rw[iH,pG r _ _ _ (by simp at h;omega),List.getElem?_set_ne (by simp at h;omega)]
theorem pJ:∀(us xs:List Value) (o i:Nat),i < us.length->o+us.length<=xs.length->(iH xs o us)[o+i]?= us[i]?
 |[],_,_,_,h,_=>absurd h (by simp)
 |u :: r,xs,o,0,_,h2=>by
  simp at h2;rw[iH,pG r _ _ _ (by omega),Nat.add_zero,i8 (by omega)];simp
 |u :: r,xs,o,i+1,h1,h2=>by
  simp at h1 h2;rw[iH,show o+(i+1)=o+1+i from by omega,pJ r _ _ _ (by omega) (by simp;omega)];simp
theorem nB{e sz n g cap:Nat}:∀(us xs:List Value) (o:Nat) (W:World),W.ownsRow 0 e sz (.slice (some ⟨g,0,none⟩) n cap) n xs->o+us.length<=n*sz->(dR W g o us).ownsRow 0 e sz (.slice (some ⟨g,0,none⟩) n cap) n (iH xs o us)
 |[],_,_,_,h,_=>h
 |u :: r,xs,o,W,h,hl=>by
  simp at hl;rw[dR,iH];refine nB r _ _ _ ?_ (by omega);obtain⟨hx,h⟩:=h;rcases h with⟨h0,_⟩|⟨g',cap',cur,h0,hb,hcur,hnc,hcm,hcs,htk⟩
  ·cases h0
  ·cases h0
   refine⟨by simpa using hx,.inr ⟨g,cap,_,rfl,hb,aD.setAt hcur o u,hnc,hcm,by simpa using hcs,?_⟩⟩;rw[<-htk];simp[List.take_set]
theorem jC{X:Nat->Prop}{A:World}{g:Nat}(hg:X g\/A.heap.size<=g):∀(us:List Value) (o:Nat) (W:World),aB X A W->aB X A (dR W g o us)
 |[],_,_,h=>h
 |u :: r,_,_,h=>jC hg r _ _ (h.setCell hg u)
structure aI where
 src:Int
 dst:Int
 no:Int
 kind:Int
 t:aL
 v:ByteArray×Int
 black:Bool
 idle:Bool
 count:Int
 round:Int
 sent:Int
 came:Int
def dL(x:ByteArray×Int):List Value:=[.string x.1,.int .i64 x.2]
def aJ(t:aL):List Value:=[.string t.id,.int .i64 t.kind,.int .i64 t.arg]
def aK(m:aI):List Value:=[.int .i64 m.src,.int .i64 m.dst,.int .i64 m.no,.int .i64 m.kind,.string m.t.id,.int .i64 m.t.kind,.int .i64 m.t.arg,.string m.v.1,.int .i64 m.v.2,.bool m.black,.bool m.idle,.int .i64 m.count,.int .i64 m.round,.int .i64 m.sent,.int .i64 m.came]
theorem jS:(prog.info? 124).map (fun i=>(i.zero,i.size,i.bytes))=some (some (.agg #[.int .i64 0,.int .i64 0,.int .i64 0,.int .i64 0,.string ⟨#[]⟩,.int .i64 0,.int .i64 0,.string ⟨#[]⟩,.int .i64 0,.bool false,.bool false,.int .i64 0,.int .i64 0,.int .i64 0,.int .i64 0]),15,128):=by kernel_rfl
theorem aC{p:Prop}(h:p):Hid p:=h
def eV{α:Type}(sz:Nat)(enc:α->List Value)(W:World)(v:Value)(l:List α):Prop:=
 ∃a cap,v= .slice a l.length cap/\∀j x,l[j]?= some x->∃g o,a=some ⟨g,o,none⟩/\g < W.heap.size/\∀i u,(enc x)[i]?= some u->W.cell? ⟨g,o+j*sz+i,none⟩=some u
theorem eV.below{α:Type}{sz n:Nat}{enc:α->List Value}{W W':World}{v:Value}{l:List α}(h:eV sz enc W v l)(hb:Below n W W')(hn:W.heap.size<=n):eV sz enc W' v l:=by
 obtain⟨a,cap,rfl,hc⟩:=h;refine⟨a,cap,rfl,fun j x hj=> ?_⟩;obtain⟨g,o,ha,hg,c0⟩:=hc j x hj;exact⟨g,o,ha,Nat.lt_of_lt_of_le hg hb.size,fun i u hi=>(hb.cell (p:=⟨g,_,none⟩) (Nat.lt_of_lt_of_le hg hn)).trans (c0 i u hi)⟩
theorem eV.nil{α:Type}(sz:Nat)(enc:α->List Value)(W:World):eV sz enc W (.slice none 0 0) []:=⟨none,0,rfl,fun j x h=>by simp at h⟩
theorem fL{α:Type}{sz:Nat}{enc:α->List Value}(he:∀x,(enc x).length=sz):∀l:List α,(l.flatMap enc).length=l.length*sz
 |[]=>by simp
 |x :: r=>by rw[List.flatMap_cons,f_,he x,fL he r,List.length_cons,Nat.succ_mul];omega
theorem dZ{α:Type}{sz:Nat}{enc:α->List Value}(he:∀x,(enc x).length=sz):∀(l:List α) (j:Nat) (x:α) (i:Nat) (u:Value),l[j]?= some x->(enc x)[i]?= some u->(l.flatMap enc)[j*sz+i]?= some u
 |[],j,x,i,u,h,_=>by simp at h
 |y :: r,0,x,i,u,h,hi=>by
  simp at h;subst h;rw[List.flatMap_cons,Nat.zero_mul,Nat.zero_add,List.getElem?_append_left (c_.1 hi).1];exact hi
 |y :: r,j+1,x,i,u,h,hi=>by
  rw[List.flatMap_cons,i7 (by rw[he y,Nat.succ_mul];omega),he y,Nat.succ_mul,show j*sz+sz+i - sz=j*sz+i from by omega];exact dZ he r j x i u (by simpa using h) hi
theorem fR{α:Type}{sz t base n:Nat}{enc:α->List Value}{W:World}{v:Value}{l:List α}(he:∀x,(enc x).length=sz)(h:W.ownsRow base t sz v n (l.flatMap enc))(hn:n=l.length):eV sz enc W v l:=by
 subst hn;obtain⟨a,cap,rfl,hc⟩:=jL h;refine⟨a,cap,rfl,fun j x hj=> ?_⟩;rcases h.2 with⟨_,h2⟩|⟨g,cap',cur,h0,hg,hgb,_⟩
 ·have:=(c_.1 hj).1
  omega
 ·cases h0
  refine⟨g,0,rfl,(h_.1 hgb).1,fun i u hi=> ?_⟩;obtain⟨g',e,_,_,c1⟩:=hc _ _ (dZ he l j x i u hj hi);cases e;rw[Nat.zero_add];exact c1
theorem iZ{α:Type}{enc:α->List Value}(he:∀x,∀u∈enc x,u.oneCell'=true)(l:List α):∀u∈l.flatMap enc,u.oneCell'=true:=by
 intro u hu;obtain⟨x,_,hx⟩:=List.mem_flatMap.1 hu;exact he x u hx
theorem xX(x:ByteArray×Int):∀u∈dL x,u.oneCell'=true:=by simp[dL,Value.oneCell']
theorem lA(x:aL):∀u∈aJ x,u.oneCell'=true:=by simp[aJ,Value.oneCell']
theorem mI(x:aI):∀u∈aK x,u.oneCell'=true:=by simp[aK,Value.oneCell']
structure cF where
 tasks:List aL
 asked:Bool
 sent:Int
 came:Int
 black:Bool
 has:Bool
 token:aI
structure aO where
 all:List aI
 known:Int
 came:Int
 kept:List Int
structure fD where
 many:Int
 sent:Int
 came:Int
 idle:Bool
structure aE where
 workers:Int
 room:Int
 mode:Int
 ks:List aS
 kind:Int
 arg:Int
 W:List cF
 links:List (List aO)
 way:List aI
 values:List (ByteArray×Int)
 answers:List fD
 around:Bool
 over:Bool
 done:Bool
def gG(a:fD):List Value:=[.int .i64 a.many,.int .i64 a.sent,.int .i64 a.came,.bool a.idle]
def nU(n:Int):List Value:=[.int .i64 n]
def jJ(p:Nat):List Value:=[.pointer (some ⟨p,0,none⟩)]
abbrev fB(tv:Value)(s:cF):Array Value:=#[tv,.bool s.asked,.int .i64 s.sent,.int .i64 s.came,.bool s.black,.bool s.has,.int .i64 s.token.src,.int .i64 s.token.dst,.int .i64 s.token.no,.int .i64 s.token.kind,.string s.token.t.id,.int .i64 s.token.t.kind,.int .i64 s.token.t.arg,.string s.token.v.1,.int .i64 s.token.v.2,.bool s.token.black,.bool s.token.idle,.int .i64 s.token.count,.int .i64 s.token.round,.int .i64 s.token.sent,.int .i64 s.token.came]
abbrev pL(av kv:Value)(s:aO):Array Value:=#[av,.int .i64 s.known,.int .i64 s.came,kv]
abbrev gK(s:aE)(kv wv lv yv vv av:Value):Array Value:=#[.int .i64 s.workers,.int .i64 s.room,.int .i64 s.mode,kv,.int .i64 s.kind,.int .i64 s.arg,wv,lv,yv,vv,.int .i64 0,av,.bool s.around,.bool s.over,.bool s.done]
def cO{α:Type}(X:Nat->Prop)(t:TypeId)(sz:Nat)(enc:α->List Value)(W:World)(v:Value)(l:List α):Prop:=
 W.ownsRow 0 t sz v l.length (l.flatMap enc)/\∀g,v.ownBlock=some g->X g
theorem cO.kept{α:Type}{X X' Y:Nat->Prop}{t:TypeId}{sz:Nat}{enc:α->List Value}{W W':World}{v:Value}{l:List α}(h:cO X t sz enc W v l)(k:aB Y W W')(hx:∀g,g < W.heap.size->X g->¬Y g/\X' g):cO X' t sz enc W' v l:=
 ⟨aP h.1 k (fun g e=>(hx g (h.1.lt g e).2 (h.2 g e)).1) (a_ _),fun g e=>(hx g (h.1.lt g e).2 (h.2 g e)).2⟩
theorem cO.nil{α:Type}(X:Nat->Prop)(t:TypeId)(sz:Nat)(enc:α->List Value)(W:World):cO X t sz enc W (.slice none 0 0) []:=⟨World.ownsRow_nil _ _ _ _,fun g e=>by cases e⟩
def mA(X:Nat->Prop)(W:World)(p:Nat)(s:cF):Prop:=
 ∃tv,aD W p 180 (fB tv s)/\X p/\cO X 62 3 aJ W tv s.tasks
theorem mA.kept{X X' Y:Nat->Prop}{W W':World}{p:Nat}{s:cF}(h:mA X W p s)(k:aB Y W W')(hx:∀g,g < W.heap.size->X g->¬Y g/\X' g):mA X' W' p s:=by
 obtain⟨tv,h1,h2,h3⟩:=h;exact⟨tv,h1.kept k (hx p h1.lt h2).1,(hx p h1.lt h2).2,h3.kept k hx⟩
def lG(X:Nat->Prop)(W:World)(p:Nat)(s:aO):Prop:=
 ∃av kv,aD W p 184 (pL av kv s)/\X p/\cO X 124 15 aK W av s.all/\cO X 3 1 nU W kv s.kept
theorem lG.kept{X X' Y:Nat->Prop}{W W':World}{p:Nat}{s:aO}(h:lG X W p s)(k:aB Y W W')(hx:∀g,g < W.heap.size->X g->¬Y g/\X' g):lG X' W' p s:=by
 obtain⟨av,kv,h1,h2,h3,h4⟩:=h;exact⟨av,kv,h1.kept k (hx p h1.lt h2).1,(hx p h1.lt h2).2,h3.kept k hx,h4.kept k hx⟩
def oN(part:Nat->Nat)(i:Nat)(W:World)(v:Value)(qs:List Nat)(ls:List aO):Prop:=
 cO (fun b=>part b=9) 182 1 jJ W v qs/\qs.length=ls.length/\∀j q x,qs[j]?= some q->ls[j]?= some x->lG (fun b=>part b=100+10*i+j) W q x
theorem oN.kept{part part':Nat->Nat}{Y:Nat->Prop}{i:Nat}{W W':World}{v:Value}{qs:List Nat}{ls:List aO}(h:oN part i W v qs ls)(k:aB Y W W')(hx:∀g,g < W.heap.size->part g=9\/100<=part g->¬Y g/\part' g=part g):oN part' i W' v qs ls:=by
 obtain⟨h1,h2,h3⟩:=h;refine⟨h1.kept k (fun g hg e=>⟨(hx g hg (.inl e)).1,(hx g hg (.inl e)).2.trans e⟩),h2,fun j q x hq hxj=>(h3 j q x hq hxj).kept k (fun g hg e=>⟨(hx g hg (.inr (by omega))).1,(hx g hg (.inr (by omega))).2.trans e⟩)⟩
theorem gI.mono'{ok ok':Nat->Prop}{W:World}{v:Value}{l:List eI}(h:gI ok W v l)(hx:∀b,ok b->ok' b):gI ok' W v l:=by
 obtain⟨a,cap,rfl,hc⟩:=h;refine⟨a,cap,rfl,fun j c hj=> ?_⟩;obtain⟨b,o,ha,hok,hb⟩:=hc j c hj;exact⟨b,o,ha,hx b hok,hb⟩
theorem bH.mono'{ok ok':Nat->Prop}{W:World}{v:Value}{l:List aS}(h:bH ok W v l)(hx:∀b,ok b->ok' b):bH ok' W v l:=by
 obtain⟨a,cap,rfl,hc⟩:=h;refine⟨a,cap,rfl,fun j c hj=> ?_⟩;obtain⟨b,o,kv,ha,hok,hb,c0,c1,c2,hk⟩:=hc j c hj;exact⟨b,o,kv,ha,hx b hok,hb,c0,c1,c2,hk.mono' hx⟩
def lS(part:Nat->Nat)(W:World)(B:Nat)(s:aE):Prop:=
 ∃(kv wv lv yv vv av:Value) (ps:List Nat) (rows:List (Value×List Nat)),
  aD W B 141 (gK s kv wv lv yv vv av)/\part B=1/\bH (fun b=>part b=6) W kv s.ks/\
  (cO (fun b=>part b=7) 178 1 jJ W wv ps/\ps.length=s.W.length/\∀i p x,ps[i]?= some p->s.W[i]?= some x->mA (fun b=>part b=10+i) W p x)/\
  (cO (fun b=>part b=8) 181 1 (fun r:Value×List Nat=>[r.1]) W lv rows/\rows.length=s.links.length/\∀i r ls,rows[i]?= some r->s.links[i]?= some ls->oN part i W r.1 r.2 ls)/\
  cO (fun b=>part b=2) 124 15 aK W yv s.way/\cO (fun b=>part b=3) 92 2 dL W vv s.values/\cO (fun b=>part b=4) 212 4 gG W av s.answers
theorem lS.kept{part part':Nat->Nat}{Y:Nat->Prop}{W W':World}{B:Nat}{s:aE}(h:lS part W B s)(k:aB Y W W')(hx:∀g,g < W.heap.size->part g≠0->part g≠5->¬Y g/\part' g=part g):lS part' W' B s:=by
 obtain⟨kv,wv,lv,yv,vv,av,ps,rows,h1,h2,h3,⟨h4,h5,h6⟩,⟨h7,h8,h9⟩,h10,h11,h12⟩:=h;have hg:∀(n:Nat),n≠0->n≠5->∀g,g < W.heap.size->part g=n->¬Y g/\part' g=n:=fun n hn hn5 g hl e=>⟨(hx g hl (by omega) (by omega)).1,(hx g hl (by omega) (by omega)).2.trans e⟩
 have hB:=hg 1 (by omega) (by omega) B h1.lt h2;refine⟨kv,wv,lv,yv,vv,av,ps,rows,h1.kept k hB.1,hB.2,?_,⟨h4.kept k (hg 7 (by omega) (by omega)),h5,fun i p x hp hxi=>(h6 i p x hp hxi).kept k (hg _ (by omega) (by omega))⟩,⟨h7.kept k (hg 8 (by omega) (by omega)),h8,fun i r ls hr hl=>(h9 i r ls hr hl).kept k (fun g hl e=>hx g hl (by omega) (by omega))⟩,h10.kept k (hg 2 (by omega) (by omega)),h11.kept k (hg 3 (by omega) (by omega)),h12.kept k (hg 4 (by omega) (by omega))⟩;have h3':=h3.below;exact(h3'.kept k (fun b hb=>(hg 6 (by omega) (by omega) b hb.2 hb.1).1)).mono' (fun b hb=>(hg 6 (by omega) (by omega) b hb.2 hb.1).2)
def dW(F:Nat->Prop)(W:World)(B:Nat)(s:aE):Prop:=∃part:Nat->Nat,(∀b,part b≠0->F b)/\lS part W B s
theorem dW.kept{F F' Y:Nat->Prop}{W W':World}{B:Nat}{s:aE}(h:dW F W B s)(k:aB Y W W')(hx:∀g,g < W.heap.size->F g->¬Y g/\F' g):dW F' W' B s:=by
 obtain⟨part,h1,h2⟩:=h;refine⟨fun b=>if b < W.heap.size then part b else 0,fun b hb=> ?_,h2.kept k (fun g hl hp _=>⟨(hx g hl (h1 g hp)).1,by simp[hl]⟩)⟩;by_cases hl:b < W.heap.size
 ·exact(hx b hl (h1 b (by simpa[hl]using hb))).2
 ·simp[hl]at hb
theorem dW.later{F:Nat->Prop}{W W':World}{B:Nat}{s:aE}(h:dW F W B s)(hk:Below W.heap.size W W'):dW F W' B s:=
 h.kept (aB.of_below hk (X:=fun b=>W.heap.size<=b) (fun _ _ h=>h)) (fun g hl hF=>⟨by omega,hF⟩)
abbrev aG(m:aI):Array Value:=#[.int .i64 m.src,.int .i64 m.dst,.int .i64 m.no,.int .i64 m.kind,.string m.t.id,.int .i64 m.t.kind,.int .i64 m.t.arg,.string m.v.1,.int .i64 m.v.2,.bool m.black,.bool m.idle,.int .i64 m.count,.int .i64 m.round,.int .i64 m.sent,.int .i64 m.came]
def ext(W:World)(part:Nat->Nat)(n b:Nat):Nat:=if b < W.heap.size then part b else n
theorem aY{W:World}{part:Nat->Nat}{n b:Nat}(h:b < W.heap.size):ext W part n b=part b:=if_pos h
theorem gF{W:World}{part:Nat->Nat}{n b:Nat}(h:W.heap.size<=b):ext W part n b=n:=if_neg (by omega)
structure cI(part part':Nat->Nat)(W W':World):Prop where
 kept:aB (fun b=>part b≠0) W W'
 old:∀b,b < W.heap.size->part' b≠0->part b≠0
theorem cI.trans{p p' p'':Nat->Nat}{W W' W'':World}(h:cI p p' W W')(k:cI p' p'' W' W''):cI p p'' W W'':=
 ⟨h.kept.andThen k.kept (fun b hb hp=>h.old b hb hp),fun b hb hp=>h.old b hb (k.old b (Nat.lt_of_lt_of_le hb h.kept.size) hp)⟩
theorem cI.of{part:Nat->Nat}{Y:Nat->Prop}{W W':World}(n:Nat)(k:aB Y W W')(hY:∀g,g < W.heap.size->Y g->part g≠0):cI part (ext W part n) W W':=
 ⟨k.mono hY,fun b hb h=>by rwa [aY hb]at h⟩
theorem rC{α:Type}{t:TypeId}{sz n:Nat}{enc:α->List Value}{part:Nat->Nat}{W W':World}{v:Value}{l:List α}(hr:W'.ownsRow 0 t sz v l.length (l.flatMap enc))(ho:∀g,v.ownBlock=some g->part g=n/\g < W.heap.size\/W.heap.size<=g):cO (fun b=>ext W part n b=n) t sz enc W' v l:=by
 refine⟨hr,fun g e=> ?_⟩;rcases ho g e with⟨h1,h2⟩|h1
 ·exact(aY h2).trans h1
 ·exact gF h1
theorem eF{W:World}{b:Nat}{t:TypeId}{m:aI}(h:aD W b t (aG m)):W.cell? ⟨b,0,none⟩=some (.int .i64 m.src)/\W.cell? ⟨b,1,none⟩=some (.int .i64 m.dst)/\W.cell? ⟨b,2,none⟩=some (.int .i64 m.no)/\W.cell? ⟨b,3,none⟩=some (.int .i64 m.kind)/\W.cell? ⟨b,4,none⟩=some (.string m.t.id)/\W.cell? ⟨b,5,none⟩=some (.int .i64 m.t.kind)/\W.cell? ⟨b,6,none⟩=some (.int .i64 m.t.arg)/\W.cell? ⟨b,7,none⟩=some (.string m.v.1)/\W.cell? ⟨b,8,none⟩=some (.int .i64 m.v.2)/\W.cell? ⟨b,9,none⟩=some (.bool m.black)/\W.cell? ⟨b,10,none⟩=some (.bool m.idle)/\W.cell? ⟨b,11,none⟩=some (.int .i64 m.count)/\W.cell? ⟨b,12,none⟩=some (.int .i64 m.round)/\W.cell? ⟨b,13,none⟩=some (.int .i64 m.sent)/\W.cell? ⟨b,14,none⟩=some (.int .i64 m.came):=
 ⟨h.cell (o:=0) rfl,h.cell (o:=1) rfl,h.cell (o:=2) rfl,h.cell (o:=3) rfl,h.cell (o:=4) rfl,h.cell (o:=5) rfl,h.cell (o:=6) rfl,h.cell (o:=7) rfl,h.cell (o:=8) rfl,h.cell (o:=9) rfl,h.cell (o:=10) rfl,h.cell (o:=11) rfl,h.cell (o:=12) rfl,h.cell (o:=13) rfl,h.cell (o:=14) rfl⟩
def eY(s:aE)(i:Int):List aL×Int:=if i < 0\/s.workers<=i then([],7)else(((s.W[i.toNat]?).map cF.tasks).getD [],0)
structure kD(s:aE):Prop where
 len:(s.W.length:Int)=s.workers
 two:2<=s.workers
 five:s.workers<=5
 rmin:1<=s.room
 rmax:s.room<=20
 few:∀x∈s.W,(x.tasks.length:Int)<=s.room
 prog:cD s.ks s.kind s.arg=true
 good:∀x∈s.W,∀t∈x.tasks,gO s.ks t/\t.arg<=12
theorem aDe(i:Int)(w:World):Calls prog 64 #[.pointer none,.int .i64 i] w fun e w'=>e= .returned (.tuple #[.slice none 0 0,.int .i64 1])/\w'=w:=by
 go_enter func64,ntmps64
 go_wp2_with fail
 go_ret2
 exact⟨rfl,rfl⟩
theorem aBl(F:Nat->Prop)(B:Nat)(s:aE)(i:Int)(w:World)(hr:dW F w B s)(hf:kD s) :
  Calls prog 64 #[.pointer (some ⟨B,0,none⟩),.int .i64 i] w fun e w'=>∃v,e= .returned (.tuple #[v,.int .i64 (eY s i).2])/\
   w'.ownsRow w.heap.size 62 3 v (eY s i).1.length ((eY s i).1.flatMap aJ)/\Below w.heap.size w w':=by
 obtain⟨i1,hi1,hy0,hy1,hy2⟩:=info_parts jU;obtain⟨part,-,kv,wv,lv,yv,vv,av,ps,rows,hb,-,-,⟨hw,hpl,hwk⟩,-⟩:=hr;have b0:=hb.cell (o:=0) rfl;have b6:=hb.cell (o:=6) rfl;have hBl:=hb.lt;clear hb;have hlen:=hf.len;go_enter func64,ntmps64;by_cases h1:i < 0
 ·have ht:eY s i=([],7):=by simp[eY,h1]
  rw[ht];clear ht
  go_wp2_with fail
  go_ret2
  exact⟨_,rfl,World.ownsRow_nil _ _ _ _,e_ _ _⟩
 by_cases h2:s.workers<=i
 ·have ht:eY s i=([],7):=by simp[eY,h2]
  rw[ht];clear ht;have h3:¬i < s.workers:=by omega
  go_wp2_with fail
  go_ret2
  exact⟨_,rfl,World.ownsRow_nil _ _ _ _,e_ _ _⟩
 obtain⟨k,rfl⟩:=Int.eq_ofNat_of_zero_le (show 0<=i by omega);have hk:k < s.W.length:=by omega
 obtain⟨x,hx⟩:∃x,s.W[k]?= some x:=⟨_,b_ hk⟩;obtain⟨p,hp⟩:∃p,ps[k]?= some p:=⟨_,b_ (by omega)⟩;have ht:eY s (k:Int)=(x.tasks,0):=by simp[eY,h2,hx]
 rw[ht];have hxl:(x.tasks.length:Int)<=20:=by
  have:=hf.few x (d_ hx);have:=hf.rmax;omega
 obtain⟨tv,hbp,-,hrow,-⟩:=hwk k p x hp hx;have p0:=hbp.cell (o:=0) rfl;obtain⟨wa,wc,rfl,hwc⟩:=jL hw.1;obtain⟨g,rfl,-,hgl,cg⟩:=hwc k _ (by have:=dZ (sz:=1) (enc:=jJ) (fun _=>rfl) ps k p 0 (.pointer (some ⟨p,0,none⟩)) hp rfl;rw[Nat.mul_one,Nat.add_zero]at this;exact this);obtain⟨ta,tc,rfl⟩:=bG hrow;have HROW:Hid (w.ownsRow 0 62 3 (.slice ta x.tasks.length tc) x.tasks.length (x.tasks.flatMap aJ)):=hrow;have j1:(0:Int)<=(k:Int):=by omega
 have j2:(k:Int) < (ps.length:Int):=by omega
 clear ht hrow hbp hwc hw hwk hp hx hf
 go_wp2_with (at_builtin;refine oB rfl _ _ _ rfl 62 i1 _ 3 32 underlying58 hi1 hy0 hy1 hy2 rfl (by omega) rfl 0 (.slice ta x.tasks.length tc) x.tasks.length (x.tasks.flatMap aJ) rfl HROW.out (iZ lA _) (by unfold maxLen;omega) (by omega) ?_;intro wv' w1 hrow1 hk1)
 go_ret2
 exact⟨_,rfl,hrow1,hk1.below (a_ _) (fun _ h=>h.elim)⟩
def aH:aI:=⟨0,0,0,0,⟨⟨#[]⟩,0,0⟩,(⟨#[]⟩,0),false,false,0,0,0,0⟩
def cR:cF:=⟨[],false,0,0,false,false,aH⟩
def cN:aO:=⟨[],0,0,[]⟩
def fC(workers room mode:Int):Bool:=decide (2<=workers)&&decide (workers<=5)&&decide (1<=room)&&decide (room<=20)&&(decide (mode=1)||decide (mode=2))
def dD(workers room mode:Int)(ks:List aS)(kind arg:Int):aE:=
 ⟨workers,room,mode,ks,kind,arg,{cR with tasks:=[⟨⟨#[]⟩,kind,arg⟩],has:=true} :: List.replicate (workers.toNat - 1) cR,List.replicate workers.toNat (List.replicate workers.toNat cN),[],[],[],false,false,false⟩
def kL(workers room mode:Int)(ks:List aS)(kind arg:Int):Int:=if fC workers room mode then(eC ks kind arg).1 else 2
theorem kE{P:Program}{w:World}{ops:Array Oper}{rest:List Oper}{o:Oper}{a:Act}{Q:Exit->Act->World->Prop}(hgd:o.guard=none)(s x:Operand)(t:TypeId)
  (ho:o.op= .call {callee:= .builtin .append,args:=#[s,x],argTypes:=#[t,t]})
  (base:Nat) (e:TypeId) (i:TypeInfo) (z:Value) (size bytes:Nat) (ht:P.underlying t=some (.slice e)) (hi:P.info? e=some i) (hz:i.zero=some z)
  (hsize:i.size=size) (hby:i.bytes=bytes) (hzs:z.cells.size=size) (hsz:0 < size)
  (v:Value) (n:Nat) (xs:List Value) (hs:a.eval s=v) (hown:w.ownsRow base e size v n xs)
  (ad:Option Addr) (m c:Nat) (news:List Value) (hx:a.eval x= .slice ad m c) (hl:news.length=m*size) (hnews:∀j u,news[j]?= some u->∃b,ad=some b/\w.cell? (b.add j)=some u) (h1:∀u∈news,u.oneCell'=true)
  (h63:n+m<=maxLen) (hbytes:(n+m)*bytes<=140737488355328) (hbase:base<=w.heap.size)
  (h:∀v' w',w'.ownsRow base e size v' (n+m) (xs++news)->w.grownBy w' v.ownBlock->wpList P ops Q rest (a.put o.dst v') w'):wpList P ops Q (o :: rest) a w:=by
 cases ad with
 |some b=>
  exact wpList_append_own w hgd s x t ho base e i z size bytes ht hi hz hsize hby hzs hsz v n xs hs hown b m c news hx hl (fun j u hj=>by obtain⟨b',e',h'⟩:=hnews j u hj;cases e';exact h') h1 h63 hbytes hbase (fun v' w' h2 h3 _=>h v' w' h2 h3)
 |none=>
  have hn0:news=[]:=by
   cases news with
   |nil=>rfl
   |cons u r=>obtain⟨b,e',_⟩:=hnews 0 u rfl;cases e'
  subst hn0;have hm:m=0:=by
   have h':m*size=0:=by simpa using hl.symm
   rcases Nat.mul_eq_zero.1 h' with h'|h'
   ·exact h'
   ·omega
  subst hm;refine wpList_plain hgd fun K hK=> ?_
  have hrun:(Builtin.append_ #[t,t] o.type #[v,.slice none 0 c]).run P w= .ok v w:=by
   rcases hown.2 with⟨rfl,rfl⟩|⟨g,cap,cur,rfl,_,_,hnc,_⟩
   ·simp[Builtin.append_,run_underlying ht,sizeOf,typeInfo,hi,Builtin.lenOf,Builtin.firstCells]
   ·simp[Builtin.append_,run_underlying ht,sizeOf,typeInfo,hi,Builtin.lenOf,Builtin.firstCells,hnc,storeCells]
  unfold Oper.wp;simp[execOp,ho,resolve,invoke,builtin,hs,hx,hrun,Result.andThen];exact hK _ _ (h v w (by simpa using hown) (World.grownBy.refl _ _))
theorem aGh:(prog.info? 178).map (fun i=>(i.zero,i.size,i.bytes))=some (some (.pointer none),1,8):=by kernel_rfl
theorem aKd:(prog.info? 182).map (fun i=>(i.zero,i.size,i.bytes))=some (some (.pointer none),1,8):=by kernel_rfl
theorem aIw:(prog.info? 181).map (fun i=>(i.zero,i.size,i.bytes))=some (some (.slice none 0 0),1,24):=by kernel_rfl
theorem aGr(a:Option Addr)(cap:Nat)(workers room mode kind arg:Int)(ks:List aS)(w:World)(hk:bH (fun _=>True) w (.slice a ks.length cap) ks)(hl:ks.length<=9223372036854775806)(hl2:∀k∈ks,k.kids.length<=9223372036854775806)(hbad:kL workers room mode ks kind arg≠0) :
  Calls prog 63 #[.agg #[.int .i64 workers,.int .i64 room,.int .i64 mode],.agg #[.slice a ks.length cap,.int .i64 kind,.int .i64 arg]] w fun e w'=>e= .returned (.tuple #[.pointer none,.int .i64 (kL workers room mode ks kind arg)])/\Below w.heap.size w w':=by
 obtain⟨V,hV⟩:∃V,(w.alloc (Obj.cells #[.int .i64 workers,.int .i64 room,.int .i64 mode] 38)).alloc (Obj.cells #[.slice a ks.length cap,.int .i64 kind,.int .i64 arg] 41)=V:=⟨_,rfl⟩;have bC:aD V w.heap.size 38 #[.int .i64 workers,.int .i64 room,.int .i64 mode]:=by rw[<-hV];exact(aD.new w _ _).alloc _
 have bP:aD V (w.heap.size+1) 41 #[.slice a ks.length cap,.int .i64 kind,.int .i64 arg]:=by
  rw[<-hV];have:=aD.new (w.alloc (Obj.cells #[.int .i64 workers,.int .i64 room,.int .i64 mode] 38)) 41 #[.slice a ks.length cap,.int .i64 kind,.int .i64 arg];rw[World.size_alloc]at this;exact this
 have hbV:Below w.heap.size w V:=by rw[<-hV];exact((e_ _ _).alloc (a_ _) _).alloc (by simp) _
 have c0:=bC.cell (o:=0) rfl;have c1:=bC.cell (o:=1) rfl;have c2:=bC.cell (o:=2) rfl;have p0:=bP.cell (o:=0) rfl;have p1:=bP.cell (o:=1) rfl;have p2:=bP.cell (o:=2) rfl;have HKV:Hid (bH (fun _=>True) V (.slice a ks.length cap) ks):=(hk.below.kept (aB.of_below hbV (X:=fun b=>w.heap.size<=b) (fun _ _ h=>h)) (fun b h1 h2=>by omega)).mono' (fun _ _=>trivial);have HBV:Hid (Below w.heap.size w V):=hbV;have HL2:Hid (∀k∈ks,k.kids.length<=9223372036854775806):=hl2;go_enter func63,ntmps63;clear bC bP hbV hk hl2;by_cases hc:fC workers room mode=true
 ·have hn:kL workers room mode ks kind arg=(eC ks kind arg).1:=by simp[kL,hc]
  rw[hn]at hbad ⊢;have h1:¬workers < 2:=by simp[fC]at hc;omega
  have h2:¬workers > 5:=by simp[fC]at hc;omega
  have h3:¬room < 1:=by simp[fC]at hc;omega
  have h4:¬room > 20:=by simp[fC]at hc;omega
  have h5:mode=1\/mode=2:=by simp[fC]at hc;omega
  clear hc hn;rcases h5 with rfl|rfl
  all_goals
   go_upto_region 4 with(go_at_call 125;refine(uY a cap kind arg ks V HKV.out hl HL2.out).mono ?_;rintro e w1 ⟨v1,rfl,-,hb1⟩)
   go_wp2_with fail
   go_ret2
   exact⟨rfl,HBV.out.trans (hb1.mono HBV.out.size)⟩
 ·have hn:kL workers room mode ks kind arg=2:=by simp[kL,hc]
  rw[hn];have hcase:workers < 2\/(¬workers < 2/\workers > 5)\/(¬workers < 2/\¬workers > 5/\room < 1)\/(¬workers < 2/\¬workers > 5/\¬room < 1/\room > 20)\/(¬workers < 2/\¬workers > 5/\¬room < 1/\¬room > 20/\(mode != 1)=true/\(mode != 2)=true):=by
   simp[fC]at hc ⊢;omega
  clear hc hn hbad;rcases hcase with h1|⟨h1,h2⟩|⟨h1,h2,h3⟩|⟨h1,h2,h3,h4⟩|⟨h1,h2,h3,h4,h5,h6⟩
  all_goals
   go_wp2_with fail
   go_ret2
   exact⟨rfl,HBV.out⟩
def dI(s:aE):Int:=if s.done then 5 else if s.over then 6 else 0
def dG(s:aE)(i:Int):Int:=if dI s=0/\(i < 0\/s.workers<=i)then 7 else dI s
def cB(s:aE)(m:aI):aE:=if s.way.length < 60 then{s with way:=s.way++ [m]}else s
def aR(s:aE)(m:aI):aE:=
 let ls:=s.links[m.src.toNat]?.getD []
 let l:=ls[m.dst.toNat]?.getD cN
 let m':={m with no:=l.all.length+1}
 let s1:={s with links:=s.links.set m.src.toNat (ls.set m.dst.toNat {l with all:=l.all++ [m']})}
 let x:=s1.W[m.src.toNat]?.getD cR
 let s2:=if m.kind=2\/m.kind=4 then{s1 with W:=s1.W.set m.src.toNat {x with sent:=x.sent+1}}else s1
 cB s2 m'
def cJ(s:aE)(i:Int):aE×Int:=
 if dG s i≠0 then(s,dG s i)else
  match s.W[i.toNat]? with
  |none=>(s,8)
  |some x=>
   match x.tasks.getLast? with
   |none=>(s,8)
   |some t=>
    if s.room < (x.tasks.length:Int) - 1+((aW s.ks t).length:Int)then({s with over:=true},6)
    else
     let s1:={s with W:=s.W.set i.toNat {x with tasks:=x.tasks.dropLast++aW s.ks t}}
     if i=0 then({s1 with values:=cP s.values (t.id,cQ s.ks t)},0)
     else(aR s1 {aH with src:=i,dst:=0,kind:=4,v:=(t.id,cQ s.ks t)},0)
theorem sQ(w:World):Calls prog 138 #[.pointer none] w fun e w'=>e= .returned (.int .i64 1)/\w'=w:=by
 go_enter func138,ntmps138
 go_wp2_with fail
 go_ret;exact⟨rfl,rfl⟩
theorem qD(i:Int)(w:World):Calls prog 129 #[.pointer none,.int .i64 i] w fun e w'=>e= .returned (.int .i64 1)/\w'=w:=by
 go_enter func129,ntmps129
 go_wp2_with (go_at_call 138;refine(sQ w).mono ?_;rintro e w1 ⟨rfl,rfl⟩)
 go_ret;exact⟨rfl,rfl⟩
theorem aFq(i:Int)(w:World):Calls prog 73 #[.pointer none,.int .i64 i] w fun e w'=>e= .returned (.int .i64 1)/\w'=w:=by
 go_enter func73,ntmps73
 go_wp2_with (go_at_call 129;refine(qD i w).mono ?_;rintro e w1 ⟨rfl,rfl⟩)
 go_ret;exact⟨rfl,rfl⟩
theorem sH(F:Nat->Prop)(B:Nat)(s:aE)(w:World)(hr:dW F w B s):Calls prog 138 #[.pointer (some ⟨B,0,none⟩)] w fun e w'=>e= .returned (.int .i64 (dI s))/\w'=w:=by
 obtain⟨part,-,kv,wv,lv,yv,vv,av,ps,rows,hb,-⟩:=hr;have b13:w.cell? ⟨B,13,none⟩=some (.bool s.over):=hb.cell (o:=13) rfl;have b14:w.cell? ⟨B,14,none⟩=some (.bool s.done):=hb.cell (o:=14) rfl;clear hb;obtain⟨d,hd⟩:∃d,s.done=d:=⟨_,rfl⟩;obtain⟨o,ho⟩:∃o,s.over=o:=⟨_,rfl⟩;have he:dI s=if d then 5 else if o then 6 else 0:=by simp[dI,hd,ho]
 rw[he];rw[hd]at b14;rw[ho]at b13;clear he hd ho;go_enter func138,ntmps138;cases d<;>cases o
 all_goals
  go_wp2_with fail
  go_ret;exact⟨rfl,rfl⟩
theorem oC(F:Nat->Prop)(B:Nat)(s:aE)(i:Int)(w:World)(hr:dW F w B s):Calls prog 129 #[.pointer (some ⟨B,0,none⟩),.int .i64 i] w fun e w'=>e= .returned (.int .i64 (dG s i))/\w'=w:=by
 have HB:Hid (Calls prog 138 #[.pointer (some ⟨B,0,none⟩)] w fun e w'=>e= .returned (.int .i64 (dI s))/\w'=w):=sH F B s w hr;obtain⟨part,-,kv,wv,lv,yv,vv,av,ps,rows,hb,-⟩:=hr;have b0:w.cell? ⟨B,0,none⟩=some (.int .i64 s.workers):=hb.cell (o:=0) rfl;clear hb;obtain⟨e,he⟩:∃e,dI s=e:=⟨_,rfl⟩;obtain⟨n,hn⟩:∃n,s.workers=n:=⟨_,rfl⟩;have hw:dG s i=if e=0/\(i < 0\/n<=i)then 7 else e:=by simp[dG,he,hn]
 rw[hw];rw[he]at HB;rw[hn]at b0;clear hw he hn;go_enter func129,ntmps129;by_cases h0:e=0
 ·subst h0
  by_cases h1:i < 0
  ·rw[if_pos ⟨rfl,.inl h1⟩]
   go_wp2_with (go_at_call 138;refine HB.out.mono ?_;rintro e w1 ⟨rfl,rfl⟩)
   go_ret;exact⟨rfl,rfl⟩
  ·by_cases h2:n<=i
   ·rw[if_pos ⟨rfl,.inr h2⟩]
    go_wp2_with (go_at_call 138;refine HB.out.mono ?_;rintro e w1 ⟨rfl,rfl⟩)
    go_ret;exact⟨rfl,rfl⟩
   ·rw[if_neg (by omega)]
    go_wp2_with (go_at_call 138;refine HB.out.mono ?_;rintro e w1 ⟨rfl,rfl⟩)
    go_ret;exact⟨rfl,rfl⟩
 ·rw[if_neg (by omega)]
  have hb:(e==0)=false:=by rw[g_];exact h0
  go_wp2_with (go_at_call 138;refine HB.out.mono ?_;rintro e w1 ⟨rfl,rfl⟩)
  go_ret;exact⟨rfl,rfl⟩
end Go.Proofs.YtfanaanofjhlkaaGreatDoor
