import Derived.Test.YtfanaanofjhlkaaGreatDoorProg
import Derived.Test.YtfanaanofjhlkaaGreatDoorList
import Derived.Deep.Slices
import Derived.Deep.SlicePairs
import Derived.Deep.Strs
import Derived.Lib.SmallJoins
import Derived.SizedLaws
import Derived.Test.YtfanaanofjhlkaaGreatDoorUnfold
import Derived.Deep.RegionLaw
import Derived.Laws.OwnMore
import Derived.Deep.DeepCutAuto
import Derived.Deep.AppendLies
import Derived.Laws.StructEq
import Derived.Conc.LoneCalls
import Derived.RangeFuncNested
import Derived.Orders
namespace Go.Proofs.YtfanaanofjhlkaaGreatDoor
open Go Go.RowKit Go.Deep Go.ChangeShapes Go.WideShapes Tryz
theorem pS:prog.cellsOf 3=1:=by kernel_rfl
theorem aKx:prog.cellsOf 53=2:=by kernel_rfl
theorem aJj:prog.cellsOf 56=3:=by kernel_rfl
theorem aJb:prog.cellsOf 54=1:=by kernel_rfl
theorem aIb:prog.cellsOf 39=1:=by kernel_rfl
theorem aFd:prog.cellsOf 41=3:=by kernel_rfl
theorem aKr:prog.bytesOf 53=16:=by kernel_rfl
theorem aKa:prog.bytesOf 56=40:=by kernel_rfl
theorem oK{W:World}{a:Addr}{i:Nat}{u v:Value}(h0:W.cell? (a.add 0)=some u)(h:W.cell? (a.add i)=some v):∃b o,a=⟨b,o,none⟩/\b < W.heap.size/\W.cell? ⟨b,o+i,none⟩=some v:=by
 obtain⟨b,o,spot⟩:=a;have h1:spot=none:=by simpa[Addr.add]using World.cell?_spot h0
 subst h1;have h2:=World.block_lt_of_cell? W _ h0;rw[Addr.add_lit]at h h2;exact⟨b,o,rfl,h2,h⟩
theorem aNd{l:List Value}(h:l.length=3):∃a b c,l=[a,b,c]:=by
 match l,h with
 |[a,b,c],_=>exact⟨a,b,c,rfl⟩
section
variable {H:Type} {enc:TypeId×Value->H} {W:World} {spare:Nat->Bool} {held:Bool}
theorem aHc{fuel:Nat}{v:Value}{x:DataW H×List MemPlace}(h:DataW.trod enc prog W 0 spare held fuel 54 [v]=some x) :
  ∃kids:List eI,gI (fun _=>True) W v kids/\(kids.length=0\/∃el sp,x.1= .slice el sp/\el.length=kids.length):=by
 rcases open_slice_pairs underlying54 underlying53 aKx rfl rfl pS pS h with⟨h0,-⟩|⟨a,len,cap,m,n,V0,V1,D0,D1,P0,P1,h0,-,hlc,hcm,hm,rfl,hx⟩
 ·simp only[List.cons.injEq,and_true]at h0
  subst h0;exact⟨[],⟨none,0,rfl,fun j c hj=>by simp at hj⟩,.inl rfl⟩
 ·simp only[List.cons.injEq,and_true]at h0
  subst h0;have hlm:len<=m:=by rw[hm];split<;>omega
  obtain⟨k0,hk0⟩:=choose_lt (α:=Int) (n:=len) (p:=fun i z=>V0 i= .int .i64 z) (fun i hi=>by
   obtain⟨_,_,h1,_⟩:=hx i (by omega);obtain⟨z,hz,_⟩:=DataW.trod_int underlying3 h1;exact⟨z,by simpa using hz⟩)
  obtain⟨k1,hk1⟩:=choose_lt (α:=Int) (n:=len) (p:=fun i z=>V1 i= .int .i64 z) (fun i hi=>by
   obtain⟨_,_,_,h1⟩:=hx i (by omega);obtain⟨z,hz,_⟩:=DataW.trod_int underlying3 h1;exact⟨z,by simpa using hz⟩)
  refine⟨(List.range len).map fun i=>⟨k0 i,k1 i⟩,⟨some a,cap,by simp,fun j c hj=> ?_⟩,.inr ⟨_,_,rfl,by simp⟩⟩;have hjl:j < len:=by simpa using (c_.1 hj).1
  simp[hjl]at hj;subst hj;obtain⟨c0,c1,_,_⟩:=hx j (by omega);rw[hk0 j hjl]at c0;rw[hk1 j hjl]at c1;have a0:=(hx 0 (by omega)).1;rw[Nat.zero_mul]at a0;obtain⟨b,o,rfl,hb,e0⟩:=oK a0 c0;obtain⟨b',o',e,_,e1⟩:=oK a0 c1;cases e;exact⟨b,o,rfl,trivial,hb,e0,by rw[Nat.add_assoc];exact e1⟩
theorem wZ{e:TypeId}{l:List (DataW H)}{d:DataW H}(hd:d∈l):∀n∈d.weights prog e,n∈DataW.weightsAll prog e l:=by
 induction l with
 |nil=>cases hd
 |cons x r ih=>
  intro n hn;unfold DataW.weightsAll;rcases List.mem_cons.1 hd with rfl|hd
  ·exact List.mem_append_left _ hn
  ·exact List.mem_append_right _ (ih hd n hn)
theorem aEl{fuel:Nat}{v:Value}{x:DataW H×List MemPlace}(h:DataW.trod enc prog W 0 spare held fuel 39 [v]=some x)(hw:∀n∈x.1.weights prog 39,n<=reachBytes) :
  ∃ks:List aS,bH (fun _=>True) W v ks/\ks.length*40<=reachBytes/\∀k∈ks,k.kids.length*16<=reachBytes:=by
 rcases open_slice underlying39 h with⟨h0,-⟩|⟨a,len,cap,m,n,D,Pl,h0,-,hlc,hcm,hm,rfl,hx⟩
 ·simp only[List.cons.injEq,and_true]at h0
  subst h0;exact⟨[],⟨none,0,rfl,fun j c hj=>by simp at hj⟩,by simp,fun k hk=>by cases hk⟩
 ·simp only[List.cons.injEq,and_true]at h0
  subst h0;have hlm:len<=m:=by rw[hm];split<;>omega
  have hlen:len*40<=reachBytes:=by
   have:=hw ((((List.range len).map D).length+((List.range (m - len)).map fun j=>D (len+j)).length)*prog.bytesOf 56) (by simp[DataW.weights,underlying39]);rw[aKa]at this;simp only[List.length_map,List.length_range]at this;have h2:len*40<=(len+(m - len))*40:=Nat.mul_le_mul_right _ (by omega);exact Nat.le_trans h2 this
  have each:∀i,i < len->∃k:aS,∃kv,W.cell? (a.add (i*3))=some (.int .i64 k.A)/\W.cell? (a.add (i*3+1))=some (.int .i64 k.B)/\W.cell? (a.add (i*3+2))=some kv/\gI (fun _=>True) W kv k.kids/\k.kids.length*16<=reachBytes:=by
   intro i hi;obtain⟨cs',h1,h2⟩:=hx i (by omega);rw[aJj]at h1;obtain⟨_,hl,hcell⟩:=World.cells?_some h1;obtain⟨y0,y1,y2,n',hD,_,g0,g1,g2⟩:=trod_struct3 underlying56 h2;obtain⟨v0,v1,v2,rfl⟩:=aNd hl;have e0:=hcell 0 (by omega);have e1:=hcell 1 (by omega);have e2:=hcell 2 (by omega);rw[add_add]at e0 e1 e2;simp only[pS,aJb,List.drop_zero,List.drop_succ_cons,List.take_succ_cons,List.take_zero]at g0 g1 g2;obtain⟨z0,hz0,_⟩:=DataW.trod_int underlying3 g0;obtain⟨z1,hz1,_⟩:=DataW.trod_int underlying3 g1;obtain⟨kids,hk,hlk⟩:=aHc g2;simp only[List.cons.injEq,and_true]at hz0 hz1;subst hz0 hz1;refine⟨⟨z0,z1,kids⟩,v2,by simpa using e0,by simpa using e1,by simpa using e2,hk,?_⟩;rcases hlk with h0|⟨el,sp,hy,hel⟩
   ·rw[h0];simp
   ·have hDi:D i∈(List.range len).map D:=List.mem_map.2 ⟨i,List.mem_range.2 hi,rfl⟩
    have:=hw ((el.length+sp.length)*prog.bytesOf 53) (by
     simp only[DataW.weights,underlying39];refine List.mem_cons_of_mem _ (List.mem_append_left _ (wZ hDi _ ?_));simp only[Prod.mk.injEq]at hD;rw[hD.1];simp[DataW.weights,DataW.weightsEach,underlying56,hy,underlying54])
    rw[aKr,hel]at this;have h2:kids.length*16<=(kids.length+sp.length)*16:=Nat.mul_le_mul_right _ (by omega);exact Nat.le_trans h2 this
  have hin:Inhabited aS:=⟨⟨0,0,[]⟩⟩;obtain⟨K,hK⟩:=choose_lt each;refine⟨(List.range len).map K,⟨some a,cap,by simp,fun j c hj=> ?_⟩,by simpa using hlen,fun k hk=> ?_⟩
  ·have hjl:j < len:=by simpa using (c_.1 hj).1
   simp[hjl]at hj;subst hj;obtain⟨kv,c0,c1,c2,hk,_⟩:=hK j hjl;obtain⟨_,a0,_⟩:=hK 0 (by omega);rw[Nat.zero_mul]at a0;obtain⟨b,o,rfl,hb,e0⟩:=oK a0 c0;obtain⟨b1,o1,e,_,e1⟩:=oK a0 c1;cases e;obtain⟨b2,o2,e,_,e2⟩:=oK a0 c2;cases e;exact⟨b,o,kv,rfl,trivial,hb,e0,by rw[Nat.add_assoc];exact e1,by rw[Nat.add_assoc];exact e2,hk⟩
  ·obtain⟨i,hi,rfl⟩:=List.mem_map.1 hk
   obtain⟨_,_,_,_,_,h⟩:=hK i (List.mem_range.1 hi);exact h
end
end Go.Proofs.YtfanaanofjhlkaaGreatDoor
namespace Go.Proofs.YtfanaanofjhlkaaGreatDoor
open Go Go.RowKit Tryz
theorem aD.drewN{W:World}{B:Nat}{t:TypeId}{cs:Array Value}(h:aD W B t cs)(n:Nat):aD (W.drewN n) B t cs:=h
theorem aB.drewN{X:Nat->Prop}{A W:World}(h:aB X A W)(n:Nat):aB X A (W.drewN n):=⟨h.os,h.tape,h.output,h.size,h.block⟩
theorem cell_far{w:World}{a:Addr}{v:Value}(h:w.cell? a=some v)(p:Addr)(u:Value)(hne:a.block≠p.block):(w.setCell p u).cell? a=some v:=
 (World.cell?_of_block (w:=w) (Below.heap_setCell w p u a.block hne)).trans h
def iC(c n:Int):Int:=(if c < 0 then -(c+1)else c) % n
theorem qO(c n:Int)(hn:1<=n):0<=iC c n/\iC c n < n:=⟨Int.emod_nonneg _ (by omega),Int.emod_lt_of_pos _ (by omega)⟩
theorem xJ{ks:List aS}{kind arg:Int}(hp:cD ks kind arg=true){k:Int}(h0:0<=k)(h1:k < ks.length) :
  ∃(j:Nat) (c:aS),k=(j:Int)/\ks[j]?= some c/\jH ks k=c/\c.kids.length<=3/\(∀d∈c.kids,1<=d.less/\d.less<=9/\0<=d.kind/\d.kind < ks.length)/\(-1000<=c.A/\c.A<=1000)/\(-1000<=c.B/\c.B<=1000):=by
 obtain⟨j,rfl⟩:=Int.eq_ofNat_of_zero_le h0;have hj:j < ks.length:=by omega
 obtain⟨c,hcc⟩:∃c,ks[j]?= some c:=⟨_,b_ hj⟩;have hkb:cL ks.length c=true:=by
  simp[cD]at hp;exact hp.1.1.2 c (d_ hcc)
 refine⟨j,c,rfl,hcc,by simp[jH,hcc],?_,?_,?_,?_⟩
 ·simp[cL]at hkb;exact hkb.1.2
 ·intro d hd;simp[cL,eW,jI,dF]at hkb;have:=hkb.2 d hd;omega
 ·simp[cL,dF]at hkb;omega
 ·simp[cL,dF]at hkb;omega
theorem aD.setAt{W:World}{B:Nat}{t:TypeId}{cs:Array Value}(h:aD W B t cs)(o:Nat)(v:Value):aD (W.setCell ⟨B,o,none⟩ v) B t (cs.setIfInBounds o v):=by
 obtain⟨hlt,hk⟩:=h_.1 h;show(W.heap.modify B _)[B]?= _;rw[Array.getElem?_eq_getElem (by rw[Array.size_modify];exact hlt),Array.getElem_modify_self,hk];rfl
theorem aD.far{W:World}{B:Nat}{t:TypeId}{cs:Array Value}(h:aD W B t cs)(p:Addr)(v:Value)(hne:B≠p.block):aD (W.setCell p v) B t cs:=
 (Below.heap_setCell W p v B hne).trans h
def gQ(l:List eI):List Value:=l.flatMap fun d=>[.int .i64 d.kind,.int .i64 d.less]
def mJ(l:List (aS×Value)):List Value:=l.flatMap fun p=>[.int .i64 p.1.A,.int .i64 p.1.B,p.2]
theorem tC(l:List eI):∀(j:Nat) (d:eI),l[j]?= some d->(gQ l)[j*2]?= some (.int .i64 d.kind)/\(gQ l)[j*2+1]?= some (.int .i64 d.less):=by
 induction l with
 |nil=>intro j d h;simp at h
 |cons e r ih=>
  intro j d h;unfold gQ;rw[List.flatMap_cons];cases j with
  |zero=>simp at h;subst h;exact⟨rfl,rfl⟩
  |succ j=>
   obtain⟨h1,h2⟩:=ih j d (by simpa using h);rw[show(j+1)*2=j*2+2 from by omega];constructor
   ·rw[i7 (by simp)]
    have e:j*2+2 - [Value.int .i64 e.kind,Value.int .i64 e.less].length=j*2:=by simp
    rw[e];exact h1
   ·rw[i7 (by simp)]
    have e:j*2+2+1 - [Value.int .i64 e.kind,Value.int .i64 e.less].length=j*2+1:=by simp
    rw[e];exact h2
theorem aDw(l:List (aS×Value)):∀(j:Nat) (p:aS×Value),l[j]?= some p->(mJ l)[j*3]?= some (.int .i64 p.1.A)/\(mJ l)[j*3+1]?= some (.int .i64 p.1.B)/\(mJ l)[j*3+2]?= some p.2:=by
 induction l with
 |nil=>intro j d h;simp at h
 |cons e r ih=>
  intro j p h;unfold mJ;rw[List.flatMap_cons];cases j with
  |zero=>simp at h;subst h;exact⟨rfl,rfl,rfl⟩
  |succ j=>
   obtain⟨h1,h2,h3⟩:=ih j p (by simpa using h);rw[show(j+1)*3=j*3+3 from by omega];refine⟨?_,?_,?_⟩
   ·rw[i7 (by simp)]
    have e:j*3+3 - [Value.int .i64 e.1.A,Value.int .i64 e.1.B,e.2].length=j*3:=by simp
    rw[e];exact h1
   ·rw[i7 (by simp)]
    have e:j*3+3+1 - [Value.int .i64 e.1.A,Value.int .i64 e.1.B,e.2].length=j*3+1:=by simp
    rw[e];exact h2
   ·rw[i7 (by simp)]
    have e:j*3+3+2 - [Value.int .i64 e.1.A,Value.int .i64 e.1.B,e.2].length=j*3+2:=by simp
    rw[e];exact h3
theorem jL{W:World}{base e size n:Nat}{v:Value}{xs:List Value}(h:W.ownsRow base e size v n xs) :
  ∃a cap,v= .slice a n cap/\∀(j:Nat) (u:Value),xs[j]?= some u->∃g,a=some ⟨g,0,none⟩/\base<=g/\g < W.heap.size/\W.cell? ⟨g,j,none⟩=some u:=by
 have h1:=h.1;rcases h.2 with⟨rfl,h0⟩|⟨g,cap,cur,rfl,hg,hgb,_⟩
 ·subst h0
  refine⟨none,0,rfl,fun k s hs=> ?_⟩;simp at h1;subst h1;simp at hs
 ·refine⟨_,cap,rfl,fun k s hs=>⟨g,rfl,hg,(h_.1 hgb).1,?_⟩⟩
  have:=h.cells (g:=g) rfl k s hs;rwa [dP]at this
theorem aDz{W:World}{base:Nat}{v:Value}{l:List eI}(h:W.ownsRow base 53 2 v l.length (gQ l)):gI (fun b=>base<=b) W v l:=by
 obtain⟨a,cap,rfl,hc⟩:=jL h;refine⟨a,cap,rfl,fun j c hj=> ?_⟩;obtain⟨h0,h1⟩:=tC l j c hj;obtain⟨g,rfl,hg,hgl,c0⟩:=hc _ _ h0;obtain⟨g',e,_,_,c1⟩:=hc _ _ h1;cases e;exact⟨g,0,rfl,hg,hgl,by rw[Nat.zero_add];exact c0,by rw[Nat.zero_add];exact c1⟩
def lD(W:World)(base:Nat)(v:Value)(l:List (aS×Value)):Prop:=
 W.ownsRow base 56 3 v l.length (mJ l)/\∀p∈l,W.ownsRow base 53 2 p.2 p.1.kids.length (gQ p.1.kids)
theorem lD.at{W:World}{base:Nat}{v:Value}{l:List (aS×Value)}(h:lD W base v l):bH (fun b=>base<=b) W v (l.map Prod.fst):=by
 obtain⟨a,cap,rfl,hc⟩:=jL h.1;refine⟨a,cap,by simp,fun j k hj=> ?_⟩;rw[List.getElem?_map]at hj;obtain⟨p,hp,rfl⟩:=Option.map_eq_some_iff.1 hj;obtain⟨h0,h1,h2⟩:=aDw l j p hp;obtain⟨g,rfl,hg,hgl,c0⟩:=hc _ _ h0;obtain⟨g',e,_,_,c1⟩:=hc _ _ h1;cases e;obtain⟨g',e,_,_,c2⟩:=hc _ _ h2;cases e;exact⟨g,0,p.2,rfl,hg,hgl,by rw[Nat.zero_add];exact c0,by rw[Nat.zero_add];exact c1,by rw[Nat.zero_add];exact c2,aDz (h.2 p (d_ hp))⟩
theorem bF{W:World}{base e t size n B:Nat}{v:Value}{xs:List Value}{cs:Array Value}{fr:Nat×Nat}(h:W.ownsRow base e size v n xs)(hB:W.heap[B]?= some (.cells cs t fr))(hte:t≠e):v.ownBlock≠some B:=by
 rcases h.2 with⟨rfl,_⟩|⟨g,cap,cur,rfl,_,hgb,_⟩
 ·simp[Value.ownBlock]
 ·intro e'
  obtain rfl:g=B:=by simpa[Value.ownBlock]using e'
  rw[hB]at hgb;simp at hgb;exact hte hgb.2.1
theorem eO{W:World}{base e size n g:Nat}{v:Value}{xs:List Value}(h:W.ownsRow base e size v n xs)(hg:v.ownBlock=some g):∃cs,W.heap[g]?= some (.cells cs e (0,0)):=by
 rcases h.2 with⟨rfl,_⟩|⟨g',cap,cur,rfl,_,hgb,_⟩
 ·simp[Value.ownBlock]at hg
 ·obtain rfl:g'=g:=by simpa[Value.ownBlock]using hg
  exact⟨cur,hgb⟩
theorem lD.kept{X:Nat->Prop}{W W':World}{base:Nat}{v:Value}{l:List (aS×Value)}(h:lD W base v l)(k:aB X W W')
  (hX:∀b,X b->b < W.heap.size->∃cs t fr,W.heap[b]?= some (.cells cs t fr)/\t≠56/\t≠53):lD W' base v l:=by
 refine⟨aP h.1 k (fun g hg hx=> ?_) (a_ _),fun p hp=>aP (h.2 p hp) k (fun g hg hx=> ?_) (a_ _)⟩
 ·obtain⟨cs,hcs⟩:=eO h.1 hg
  obtain⟨cs',t,fr,hcs',h1,_⟩:=hX g hx (h_.1 hcs).1;exact bF h.1 hcs' h1 hg
 ·obtain⟨cs,hcs⟩:=eO (h.2 p hp) hg
  obtain⟨cs',t,fr,hcs',_,h2⟩:=hX g hx (h_.1 hcs).1;exact bF (h.2 p hp) hcs' h2 hg
theorem lD.below{W W':World}{base:Nat}{v:Value}{l:List (aS×Value)}(h:lD W base v l)(k:Below W.heap.size W W'):lD W' base v l:=
 h.kept (X:=fun b=>W.heap.size<=b) (aB.of_below k (fun _ _ h=>h)) (fun _ h1 h2=>absurd h2 (Nat.not_lt_of_le h1))
def jB:List aS:=[⟨2,1,[⟨0,1⟩,⟨0,2⟩]⟩]
def aMa:List aL:=[⟨⟨#[]⟩,0,2⟩,⟨⟨#[48]⟩,0,1⟩,⟨⟨#[48,48]⟩,0,0⟩,⟨⟨#[49]⟩,0,0⟩]
theorem aKb:eC jB 0 2=(0,aMa):=by kernel_rfl
theorem dY{P:Program}{ops:Array Oper}{o:Oper}{a:Act}{w:World}{K:Act->World->Prop}{Q:Exit->Act->World->Prop}{E:Prop}{R:Value->World->Prop}
  (hg:o.guard=none) (f:Nat) (x y:Operand) (tys:Array TypeId) (hop:o.op=Op.call {callee:=Callee.value (Operand.func f),args:=#[x,y],argTypes:=tys}) (v1 v2:Value) (hx:a.eval x=v1) (hy:a.eval y=v2)
  (he:∀args w,(callFunc f args).run P w= .ok (.enter f args) w) (hc:Calls P f #[v1,v2] w fun e w'=>∃v,e= .returned v/\R v w') (hK:∀v w',R v w'->K (a.put o.dst v) w') :
  if Region.wanted o (yielded ops a.tmps)=true then Oper.wp P o a w K Q else E:=by
 have hw:Region.wanted o (yielded ops a.tmps)=true:=by simp[Region.wanted,hg]
 rw[if_pos hw];have hf:a.eval (Operand.func f)= .func (.func f) #[] #[]:=rfl;unfold Oper.wp execOp;simp only[hop,resolve,invoke,hf,Sem.run_bind,List.map_toArray,List.map_cons,List.map_nil,hx,hy];simp[Deferred.ofValue,he,go_sem];refine hc.mono ?_;rintro e w' ⟨v,rfl,hR⟩;exact hK v w' hR
theorem aAt{P:Program}{w:World}{ops:Array Oper}{o:Oper}{a:Act}{K:Act->World->Prop}{Q:Exit->Act->World->Prop}{E:Prop}(hgd:o.guard=none)(s x:Operand)(t:TypeId)
  (ho:o.op= .call {callee:= .builtin .append,args:=#[s,x],argTypes:=#[t,t]})
  (base:Nat) (e:TypeId) (i:TypeInfo) (size:Nat) (ht:P.underlying t=some (.slice e)) (hi:P.info? e=some i)
  (v:Value) (n:Nat) (xs:List Value) (hs:a.eval s=v) (hown:w.ownsRow base e size v n xs) (hx:a.eval x= .slice none 0 0)
  (h:K (a.put o.dst v) w):if Region.wanted o (yielded ops a.tmps)=true then Oper.wp P o a w K Q else E:=by
 have hw:Region.wanted o (yielded ops a.tmps)=true:=by simp[Region.wanted,hgd]
 rw[if_pos hw];have hrun:=run_append_owned_none (P:=P) (w:=w) base t o.type e i size ht hi v n xs hown;unfold Oper.wp;simp[execOp,ho,resolve,invoke,builtin,hs,hx,hrun,Result.andThen];exact h
theorem rM(W:World)(g base e size n:Nat)(cs:Array Value)(xs:List Value)(hg:W.heap.size=g)(hb:base<=g)(hx:cs.toList=xs)(hl:xs.length=n*size)(hn:n<=maxLen):(W.alloc (.cells cs e)).ownsRow base e size (.slice (some ⟨g,0,none⟩) n n) n xs:=by
 subst hg;subst hx;refine⟨hl,.inr ⟨W.heap.size,n,cs,rfl,hb,World.alloc_heap_new W _,a_ _,hn,by simpa using hl,?_⟩⟩;rw[<-hl,List.take_length]
theorem uQ:(prog.info? 53).map (fun i=>(i.zero,i.size,i.bytes))=some (some (.agg #[.int .i64 0,.int .i64 0]),2,16):=by kernel_rfl
theorem uM:(prog.info? 56).map (fun i=>(i.zero,i.size,i.bytes))=some (some (.agg #[.int .i64 0,.int .i64 0,.slice none 0 0]),3,40):=by kernel_rfl
def zD(W:World)(v:Value)(l:List (ByteArray×Int)):Prop:=
 ∃a cap,v= .slice a l.length cap/\∀j x,l[j]?= some x->∃g o,a=some ⟨g,o,none⟩/\g < W.heap.size/\W.cell? ⟨g,o+j*2,none⟩=some (.string x.1)/\W.cell? ⟨g,o+j*2+1,none⟩=some (.int .i64 x.2)
def fI(l:List (ByteArray×Int)):List Value:=l.flatMap fun x=>[.string x.1,.int .i64 x.2]
def mN(ks:List aS)(l:List aL):List (ByteArray×Int):=l.map fun t=>(t.id,cQ ks t)
theorem aAz(ks:List aS)(l:List aL):nD ks l=fI (mN ks l):=by
 simp[nD,fI,mN,List.flatMap_map]
theorem vF(ks:List aS)(l:List aL):(mN ks l).length=l.length:=by simp[mN]
theorem aDi(l:List (ByteArray×Int)):∀(j:Nat) (x:ByteArray×Int),l[j]?= some x->(fI l)[j*2]?= some (.string x.1)/\(fI l)[j*2+1]?= some (.int .i64 x.2):=by
 induction l with
 |nil=>intro j d h;simp at h
 |cons e r ih=>
  intro j d h;unfold fI;rw[List.flatMap_cons];cases j with
  |zero=>simp at h;subst h;exact⟨rfl,rfl⟩
  |succ j=>
   obtain⟨h1,h2⟩:=ih j d (by simpa using h);rw[show(j+1)*2=j*2+2 from by omega];constructor
   ·rw[i7 (by simp)]
    have e:j*2+2 - [Value.string e.1,Value.int .i64 e.2].length=j*2:=by simp
    rw[e];exact h1
   ·rw[i7 (by simp)]
    have e:j*2+2+1 - [Value.string e.1,Value.int .i64 e.2].length=j*2+1:=by simp
    rw[e];exact h2
theorem aAr(l:List (ByteArray×Int)):(fI l).length=l.length*2:=by
 induction l with
 |nil=>rfl
 |cons x r ih=>unfold fI at ih ⊢;simp[ih];omega
theorem tB{W:World}{base n:Nat}{v:Value}{l:List (ByteArray×Int)}(h:W.ownsRow base 92 2 v n (fI l)):n=l.length/\zD W v l:=by
 have hn:n=l.length:=by
  have:=h.1;rw[aAr]at this;omega
 subst hn;obtain⟨a,cap,rfl,hc⟩:=jL h;refine⟨rfl,a,cap,rfl,fun j x hj=> ?_⟩;obtain⟨h0,h1⟩:=aDi l j x hj;obtain⟨g,rfl,hg,hgl,c0⟩:=hc _ _ h0;obtain⟨g',e,_,_,c1⟩:=hc _ _ h1;cases e;exact⟨g,0,rfl,hgl,by rw[Nat.zero_add];exact c0,by rw[Nat.zero_add];exact c1⟩
def bN(P:Program)(c:Code)(Q:Exit->Act->World->Prop)(a:Act)(w:World):Prop:=
 ∀(b:Frame) (k:List Item) (cs:List Frame),b.kind= .normal->b.roundOf=none->∃e a' w',Q e a' w'/\Arrives P (lone (b.at a (.code c :: k)) cs w) b k cs e a' w'
def dQ(P:Program)(ops:Array Oper)(l:List Nat)(Q:Exit->Act->World->Prop)(a:Act)(w:World):Prop:=
 ∀(b:Frame) (k:List Item) (cs:List Frame),b.kind= .normal->b.roundOf=none->∃e a' w',Q e a' w'/\Arrives P (lone (b.at a (.inRegion ops l :: k)) cs w) b k cs e a' w'
section
variable {P:Program} {Q:Exit->Act->World->Prop} {a:Act} {w:World}
theorem bN.of_wp{c:Code}(h:c.wp P Q a w):bN P c Q a w:=fun b k cs _ _=>h b k cs
theorem bN.of_wpIn{n:Nat}{c:Code}(h:c.wpIn Fence.wide n P Q a w):bN P c Q a w:=fun b k cs _ hb=>by
 obtain⟨e,a',w',h1,h2⟩:=h b k cs hb trivial (room_wide _);rw[Frame.atR_of_none hb]at h2;exact⟨e,a',w',h1,(arrivesIn_iff (fun _ _=>stepsIn_wide) hb).1 h2⟩
theorem bN.mono{c:Code}{Q':Exit->Act->World->Prop}(h:bN P c Q a w)(hq:∀e a w,Q e a w->Q' e a w):bN P c Q' a w:=
 fun b k cs hk hb=>let⟨e,a',w',q,r⟩:=h b k cs hk hb;⟨e,a',w',hq _ _ _ q,r⟩
theorem bN.seq{x y:Code}(h:bN P x (Exit.then (bN P y Q) Q) a w):bN P (.seq x y) Q a w:=by
 intro b k cs hk hb;obtain⟨e,a1,w1,hq,hr⟩:=h b (.code y :: k) cs hk hb;have go:∀e',e=e'->e'≠ .normal->Q e' a1 w1->∃e a' w',Q e a' w'/\Arrives P (lone (b.at a (.code (.seq x y) :: k)) cs w) b k cs e a' w':=fun e' he hn hq'=>by
  subst he;exact⟨_,a1,w1,hq',.of_steps (.one step_seq) (.pass (x:= .code y) rfl (fun _ _=> .inl hn) hr)⟩
 cases e with
 |normal=>
  obtain⟨e2,a2,w2,hq2,hr2⟩:=hq b k cs hk hb;exact⟨e2,a2,w2,hq2,.of_steps (.head step_seq hr) hr2⟩
 |exit id=>exact go _ rfl (by simp) hq
 |goto l=>exact go _ rfl (by simp) hq
 |ret=>exact go _ rfl (by simp) hq
 |panic ch=>exact go _ rfl (by simp) hq
 |outgrown=>exact go _ rfl (by simp) hq
theorem bN.step{x y:Code}(h:∀K:Act->World->Prop,(∀a w,bN P y Q a w->K a w)->x.wp P (Exit.then K (fun _ _ _=>False)) a w):bN P (.seq x y) Q a w:=
 bN.seq ((bN.of_wp (h _ fun _ _ h=>h)).mono fun e a w hq=>by cases e<;>first|exact hq|exact hq.elim)
theorem bN.cond{c:Operand}{x y:Code}{t:Bool}(hc:a.eval c= .bool t)(h:bN P (if t then x else y) Q a w):bN P (.cond c x y) Q a w:=
 fun b k cs hk hb=>let⟨e,a',w',q,r⟩:=h b k cs hk hb;⟨e,a',w',q,.of_steps (.one (step_cond hc)) r⟩
theorem bN.block{id:Nat}{c:Code}(h:bN P c (Exit.inBlock id Q) a w):bN P (.block id c) Q a w:=by
 intro b k cs hk hb;obtain⟨e,a1,w1,hq,hr⟩:=h b (.inBlock id :: k) cs hk hb;cases e with
 |normal=>exact⟨.normal,a1,w1,hq,.head step_block (Steps.trans hr (.one step_inBlock))⟩
 |exit i=>
  by_cases hi:i=id
  ·subst hi
   exact⟨.normal,a1,w1,by simpa[Exit.inBlock]using hq,.head step_block (hr k (by simp[exitTo]))⟩
  ·refine⟨.exit i,a1,w1,by simpa[Exit.inBlock,hi]using hq,fun k' hk'=> .head step_block (hr k' ?_)⟩
   have:(id==i)=false:=by rw[g_];exact fun h=>hi h.symm
   simp[exitTo,this,hk']
 |goto l=>exact⟨_,a1,w1,hq,fun k' hk'=> .head step_block (hr k' (by simp[gotoIn,hk']))⟩
 |ret=>exact⟨_,a1,w1,hq,.of_steps (.one step_block) hr⟩
 |panic ch=>exact⟨_,a1,w1,hq,.of_steps (.one step_block) hr⟩
 |outgrown=>exact⟨_,a1,w1,hq,.of_steps (b:=b) (k:=k) (cs:=cs) (e:= .outgrown) (.one step_block) hr⟩
theorem bN.loop{c:Code}(I:Nat->Act->World->Prop)(m:Nat)(h0:I m a w)(round:∀m a w,I m a w->bN P c (Exit.then (fun a' w'=>∃m',m' < m/\I m' a' w') Q) a w):bN P (.loop c) Q a w:=by
 intro b k cs hk hb;have key:∀m a w,I m a w->∃e a' w',Q e a' w'/\Arrives P (lone (b.at a (.code c :: .inLoop c :: k)) cs w) b k cs e a' w':=by
  intro m
  induction m using Nat.strongRecOn with
  |_ m ih=>
   intro a w hI;obtain⟨e,a1,w1,hq,hr⟩:=round m a w hI b (.inLoop c :: k) cs hk hb;have go:∀e',e=e'->e'≠ .normal->Q e' a1 w1->∃e a' w',Q e a' w'/\Arrives P (lone (b.at a (.code c :: .inLoop c :: k)) cs w) b k cs e a' w':=fun e' he hn hq'=>by
    subst he;exact⟨_,a1,w1,hq',.pass (x:= .inLoop c) rfl (fun _ _=> .inl hn) hr⟩
   cases e with
   |normal=>
    obtain⟨m',hlt,hI'⟩:=hq;obtain⟨e2,a2,w2,hq2,hr2⟩:=ih m' hlt a1 w1 hI';exact⟨e2,a2,w2,hq2,.of_steps (Steps.trans hr (.one step_inLoop)) hr2⟩
   |exit id=>exact go _ rfl (by simp) hq
   |goto l=>exact go _ rfl (by simp) hq
   |ret=>exact go _ rfl (by simp) hq
   |panic ch=>exact go _ rfl (by simp) hq
   |outgrown=>exact go _ rfl (by simp) hq
 obtain⟨e,a',w',hq,hr⟩:=key m a w h0;exact⟨e,a',w',hq,.of_steps (.one step_loop) hr⟩
theorem bN.region{id:Nat}{ops:Array Oper}(h:dQ P ops (List.range ops.size) Q a w):bN P (.region id ops false) Q a w:=
 fun b k cs hk hb=>let⟨e,a',w',q,r⟩:=h b k cs hk hb;⟨e,a',w',q,.of_steps (.one step_region) r⟩
theorem bN.region_draw{id:Nat}{ops:Array Oper}(h:∀t,dQ P ops (Region.schedule (P.follows .mixedOrders) ops t) Q a {w with drawn:=w.drawn+1}):bN P (.region id ops true) Q a w:=
 fun b k cs hk hb=>let⟨e,a',w',q,r⟩:=h _ b k cs hk hb;⟨e,a',w',q,.of_steps (.one step_region_draw) r⟩
variable {ops:Array Oper} {i:Nat} {rest:List Nat} {o:Oper}
theorem dQ.nil(h:Q .normal a w):dQ P ops [] Q a w:=fun _ _ _ _ _=>⟨.normal,a,w,h,.one step_region_end⟩
theorem qB(ho:ops[i]?= some o)(b:Frame)(k:List Item)(v:Value):(b.at a (.inRegion ops (i :: rest) :: k)).finish v=b.at (a.put o.dst v) (.inRegion ops rest :: k):=by
 rw[Frame.finish_at,ho];rfl
theorem dQ.value{v:Value}{w':World}(ho:ops[i]?= some o)(hw:Region.wanted o (yielded ops a.tmps)=true)(hr:(execOp a.eval o).run P w= .ok (.value v) w')(h:dQ P ops rest Q (a.put o.dst v) w'):dQ P ops (i :: rest) Q a w:=by
 intro b k cs hk hb;obtain⟨e,a2,w2,hq,hr2⟩:=h b k cs hk hb;refine⟨e,a2,w2,hq,.of_steps (.one (step_lone_go ?_)) hr2⟩;rw[stepG_op ho hw,<-qB ho];simp[stepG.apply,hr]
theorem dQ.send{c cap s r:Nat}{buf:Array Value}{tm:Bool}{v z:Value}{w':World}(ho:ops[i]?= some o)(hw:Region.wanted o (yielded ops a.tmps)=true)(hr:(execOp a.eval o).run P w= .ok (.comm #[Conc.scase c v z] true .send) w')
  (hc:w'.heap[c]?= some (.chan cap buf false s r tm)) (hroom:buf.size < cap) (h:dQ P ops rest Q (a.put o.dst undef) (w'.setChan c cap (buf.push v) false (s+1) r tm)):dQ P ops (i :: rest) Q a w:=by
 intro b k cs hk hb;obtain⟨e,a2,w2,hq,hr2⟩:=h b k cs hk hb;refine⟨e,a2,w2,hq,.of_steps (.one ?_) hr2⟩;have:=Conc.step_lone_send_room (fr:=b.at a (.inRegion ops (i :: rest) :: k)) (cs:=cs) (Conc.stepG_comm ho hw (by rw[hk];simp) hr) hc hroom;rw[qB ho]at this;exact this
theorem dQ.recv{ok closed tm:Bool}{c cap s r:Nat}{buf:Array Value}{z:Value}{w':World}(ho:ops[i]?= some o)(hw:Region.wanted o (yielded ops a.tmps)=true)(hr:(execOp a.eval o).run P w= .ok (.comm #[Conc.rcase c z] true (.recv ok)) w')
  (hc:w'.heap[c]?= some (.chan cap buf closed s r tm)) (hsome:0 < buf.size) (h:dQ P ops rest Q (a.put o.dst (Conc.got ok (buf.getD 0 undef) true)) (w'.setChan c cap (buf.extract 1 buf.size) closed s (r+1) tm)):dQ P ops (i :: rest) Q a w:=by
 intro b k cs hk hb;obtain⟨e,a2,w2,hq,hr2⟩:=h b k cs hk hb;refine⟨e,a2,w2,hq,.of_steps (.one ?_) hr2⟩;have:=Conc.step_lone_recv_buf (fr:=b.at a (.inRegion ops (i :: rest) :: k)) (cs:=cs) ok (Conc.stepG_comm ho hw (by rw[hk];simp) hr) hc hsome;rw[qB ho]at this;exact this
theorem dQ.shut{ok tm:Bool}{c cap s r:Nat}{z:Value}{w':World}(ho:ops[i]?= some o)(hw:Region.wanted o (yielded ops a.tmps)=true)(hr:(execOp a.eval o).run P w= .ok (.comm #[Conc.rcase c z] true (.recv ok)) w')
  (hc:w'.heap[c]?= some (.chan cap #[] true s r tm)) (h:dQ P ops rest Q (a.put o.dst (Conc.got ok z false)) w'):dQ P ops (i :: rest) Q a w:=by
 intro b k cs hk hb;obtain⟨e,a2,w2,hq,hr2⟩:=h b k cs hk hb;refine⟨e,a2,w2,hq,.of_steps (.one ?_) hr2⟩;have:=Conc.step_lone_recv_shut (fr:=b.at a (.inRegion ops (i :: rest) :: k)) (cs:=cs) ok (Conc.stepG_comm ho hw (by rw[hk];simp) hr) hc;rw[qB ho]at this;exact this
def uT(a:Act)(o:Oper)(K:Act->World->Prop):Result Next->Prop
 | .ok (.value v) w'=>K (a.put o.dst v) w'
 |_=>False
theorem mG(a:Act)(o:Oper)(K:Act->World->Prop)(v:Value)(w':World):uT a o K (.ok (.value v) w')=K (a.put o.dst v) w':=rfl
theorem dQ.oper(ho:ops[i]?= some o)(hw:Region.wanted o (yielded ops a.tmps)=true)(h:∀K:Act->World->Prop,(∀a' w',dQ P ops rest Q a' w'->K a' w')->uT a o K ((execOp a.eval o).run P w)):dQ P ops (i :: rest) Q a w:=by
 have h1:=h _ (fun _ _ h=>h);unfold uT at h1;split at h1
 ·rename_i v w' hr
  exact dQ.value ho hw hr h1
 ·exact h1.elim
def pP(md:Region.Mode)(ops:Array Oper):Nat->Array Bool->List (List Nat)
 |0,_=>[[]]
 |n+1,listed=>match Region.ready md ops listed with
  |[]=>[[]]
  |x :: r=>(x :: r).flatMap fun i=>(pP md ops n (listed.setIfInBounds i true)).map (i :: ·)
theorem aJt{md:Region.Mode}{ops:Array Oper}:∀(n t:Nat) (listed:Array Bool),Region.linearise.go md ops n t listed []∈pP md ops n listed:=by
 intro n
 induction n with
 |zero=>intro t listed;simp[Region.linearise.go,pP]
 |succ n ih=>
  intro t listed;simp only[Region.linearise.go,pP];change (match(Region.ready md ops listed)[t % (Region.ready md ops listed).length]? with
   |some i=>Region.linearise.go md ops n (t / (Region.ready md ops listed).length) (listed.setIfInBounds i true) [i]
   |none=>[].reverse)∈_
  cases hr:Region.ready md ops listed with
  |nil=>simp
  |cons x r=>
   have hlt:t % (x :: r).length < (x :: r).length:=Nat.mod_lt _ (by simp);rw[b_ hlt];simp only[];rw[linearise_go_acc,List.reverse_singleton,List.singleton_append];exact List.mem_flatMap.2 ⟨_,List.getElem_mem hlt,List.mem_map.2 ⟨_,ih _ _,rfl⟩⟩
theorem bN.region_any{id:Nat}{ops:Array Oper}{L:List (List Nat)}(hm:P.follows .mixedOrders=true)(hL:pP .any ops ops.size (Array.replicate ops.size false)=L)(h:∀l∈L,dQ P ops l Q a {w with drawn:=w.drawn+1}):bN P (.region id ops true) Q a w:=
 bN.region_draw fun t=>h _ (by
  rw[<-hL];simp only[Region.schedule,hm,Bool.true_or,if_true];exact aJt _ _ _)
theorem sP{f:FuncId}{fn:Func}{c:Code}{args:Array Value}{R:Ending->World->Prop}(hf:P.funcs[f]?= some fn)(hc:fn.body=some c)
  (h:bN P c (bodyPost P fn R) {tmps:=args++Array.replicate (fn.ntmps - args.size) undef,defers:=[]} w) (hno:∀w',¬R .outgrown w'):Calls P f args w R:=by
 intro cs
 let b:Frame:={(default:Frame)with fn:=f,kind:= .normal,roundOf:=none}
 have he:Frame.enter P f args .normal=b.at {tmps:=args++Array.replicate (fn.ntmps - args.size) undef,defers:=[]} [.code c]:=by
  simp[Frame.enter,Frame.at,hf,hc,b]
 obtain⟨e,a',w',hq,hr⟩:=h b [] cs rfl rfl;rw[<-he]at hr;cases e with
 |normal=>
  obtain⟨hd,v,hv,hR⟩:=hq;exact⟨.returned v,w',_,hR,Steps.trans hr (.one step_end),rfl,rfl,hd,rfl,fn,hf,hv⟩
 |ret=>
  obtain⟨hd,v,hv,hR⟩:=hq;obtain⟨todo,hs⟩:=hr;exact⟨.returned v,w',_,hR,hs,rfl,rfl,hd,rfl,fn,hf,hv⟩
 |panic ch=>
  obtain⟨hd,hR⟩:=hq;obtain⟨todo,hs⟩:=hr;exact⟨.panicked ch,w',_,hR,hs,rfl,rfl,hd,fn,hf⟩
 |exit id=>exact hq.elim
 |goto l=>exact hq.elim
 |outgrown=>exact absurd hq (hno _)
end
def kK(fn:FuncId)(tmps:Array Value)(ps:Array Tmp)(assign body:Code)(D:Nat)(st:LoopState)(pe:Option Code):Loop:=
 {state:=st,pending:=pe,fn,tmps,params:=ps,assign,body,defers:=D}
def zK(l:Nat)(rec:LoopState->Option Code->Loop)(R:Ending->World->Prop):Exit->Act->World->Prop
 | .normal,_,Z=>Z.heap[l]?= some (.loop (rec .busy none))/\R (.returned (.bool true)) (Z.putObj l (.loop (rec .ready none)))
 | .ret,_,Z=>Z.heap[l]?= some (.loop (rec .busy none))/\R (.returned (.bool false)) (Z.putObj l (.loop (rec .done (some .ret))))
 | .exit i,_,Z=>Z.heap[l]?= some (.loop (rec .busy none))/\R (.returned (.bool false)) (Z.putObj l (.loop (rec .done (some (.exit i)))))
 |_,_,_=>False
variable {P:Program}
theorem aGs{m l:Nat}{fn:FuncId}{tmps:Array Value}{ps:Array Tmp}{assign body:Code}{D:Nat}{args:Array Value}{W:World}{R:Ending->World->Prop}
  (hl:W.heap[l]?= some (.loop (kK fn tmps ps assign body D .ready none))) (hps:args.size=ps.size)
  (h:∀K:Act->World->Prop,(∀a' U,U.heap[l]?= some (.loop (kK fn tmps ps assign body D .ready none))->body.wpIn (Fence.wide.inRound l) m P (zK l (kK fn tmps ps assign body D) R) a' (U.putObj l (.loop (kK fn tmps ps assign body D .busy none)))->K a' U)->
   assign.wpIn (Fence.wide.inRound l) m P (Exit.then K (fun _ _ _=>False)) {tmps:=(ps.zip args).foldl (fun t (p,v)=>t.setIfInBounds p v) tmps,defers:=[]} W):YieldAt Fence.wide m P l args W R:=by
 refine⟨fn,_,assign,body,run_yield hl hps,roundIn_of_wpIn trivial (h _ fun a' U ul hb=> ?_)⟩;refine⟨_,run_beginRound ul rfl,?_⟩;refine wpIn_mono hb ?_;rintro e a3 Z hp;cases e with
 |normal=>exact⟨_,_,run_endRound none hp.1,hp.2⟩
 |ret=>exact⟨_,_,run_endRound (some .ret) hp.1,hp.2⟩
 |exit i=>exact⟨_,_,run_endRound (some (.exit i)) hp.1,hp.2⟩
 |goto t=>exact hp.elim
 |panic ch=>exact hp.elim
 |outgrown=>exact hp.elim
theorem aHx{F:Fence}{n:Nat}{g:Operand}{ps:Array Tmp}{assign body:Code}{Q:Exit->Act->World->Prop}{a:Act}{w:World}{gf:Nat}{lb:Array Value}(hro:F.round=none)(h1:F.depth.isSome=true->1<=n)(hFg:F.fn gf)(hg:a.eval g= .func (.func gf) #[] lb)(eg:∀args w,(callFunc gf args).run P w= .ok (.enter gf args) w)
  (hcall:∀fn,CallsIn F (n - 1) P gf (#[.func (.yield (w.heap.size+1)) #[] #[]]++lb) ((w.alloc (.deferred (some []))).alloc (.loop (kK fn a.tmps ps assign body w.heap.size .ready none))) fun e W'=>(∃v,e= .returned v)/\
   ((W'.heap[w.heap.size+1]?= some (.loop (kK fn a.tmps ps assign body w.heap.size .ready none))/\Q .normal {a with defers:={target:= .collected w.heap.size,args:=#[]} :: a.defers} (W'.putObj (w.heap.size+1) (.loop (kK fn a.tmps ps assign body w.heap.size .exhausted none))))\/
    ∃c,W'.heap[w.heap.size+1]?= some (.loop (kK fn a.tmps ps assign body w.heap.size .done (some c)))/\c.wpIn F n P Q {a with defers:={target:= .collected w.heap.size,args:=#[]} :: a.defers} (W'.putObj (w.heap.size+1) (.loop (kK fn a.tmps ps assign body w.heap.size .exhausted (some c)))))) :
  (Code.rangeFunc g ps assign body).wpIn F n P Q a w:=by
 refine wpIn_rangeFunc fun fn _=> ?_
 rw[hro];have hc:=hcall fn;obtain⟨V,hV⟩:∃V,(w.alloc (.deferred (some []))).alloc (.loop (kK fn a.tmps ps assign body w.heap.size .ready none))=V:=⟨_,rfl⟩;rw[hV]at hc;refine⟨w.heap.size+1,[{target:= .collected w.heap.size,args:=#[]}],V,{target:= .fn (.func gf) lb,args:=#[.func (.yield (w.heap.size+1)) #[] #[]]},V,gf,
  #[.func (.yield (w.heap.size+1)) #[] #[]]++lb,V,?_,?_,?_,?_,?_,?_⟩
 ·rw[<-hV];exact run_enterLoop_outer _ _ _ _ _
 ·simp only[resolve,hg];simp[go_sem]
 ·intro f' hf';simp[Target.leads]at hf';subst hf';exact hFg
 ·simp[invoke,go_sem,eg]
 ·exact h1
 ·refine hc.mono ?_
  rintro e Z ⟨⟨v,rfl⟩,(⟨hl,hq⟩|⟨c,hl,hq⟩)⟩
  ·exact⟨none,_,run_endLoop hl (by simp[kK]),hq⟩
  ·exact⟨some c,_,run_endLoop hl (by simp[kK]),hq⟩
theorem tN{n:Nat}{g:Operand}{ps:Array Tmp}{assign body:Code}{Q:Exit->Act->World->Prop}{a:Act}{w:World}{gf:Nat}{lb:Array Value}(hg:a.eval g= .func (.func gf) #[] lb)(eg:∀args w,(callFunc gf args).run P w= .ok (.enter gf args) w)
  (hcall:∀rec:LoopState->Option Code->Loop,
   (∀(m:Nat) (args:Array Value) (W:World) (R:Ending->World->Prop),W.heap[w.heap.size+1]?= some (.loop (rec .ready none))->args.size=ps.size->
    (∀K:Act->World->Prop,(∀a' U,U.heap[w.heap.size+1]?= some (.loop (rec .ready none))->body.wpIn (Fence.wide.inRound (w.heap.size+1)) m P (zK (w.heap.size+1) rec R) a' (U.putObj (w.heap.size+1) (.loop (rec .busy none)))->K a' U)->
     assign.wpIn (Fence.wide.inRound (w.heap.size+1)) m P (Exit.then K (fun _ _ _=>False)) {tmps:=(ps.zip args).foldl (fun t (p,v)=>t.setIfInBounds p v) a.tmps,defers:=[]} W)->YieldAt Fence.wide m P (w.heap.size+1) args W R)->
   CallsIn Fence.wide (n - 1) P gf (#[.func (.yield (w.heap.size+1)) #[] #[]]++lb) ((w.alloc (.deferred (some []))).alloc (.loop (rec .ready none))) fun e W'=>(∃v,e= .returned v)/\
    ((W'.heap[w.heap.size+1]?= some (.loop (rec .ready none))/\Q .normal {a with defers:={target:= .collected w.heap.size,args:=#[]} :: a.defers} (W'.putObj (w.heap.size+1) (.loop (rec .exhausted none))))\/
     ∃c,W'.heap[w.heap.size+1]?= some (.loop (rec .done (some c)))/\c.wpIn Fence.wide n P Q {a with defers:={target:= .collected w.heap.size,args:=#[]} :: a.defers} (W'.putObj (w.heap.size+1) (.loop (rec .exhausted (some c)))))) :
  (Code.rangeFunc g ps assign body).wpIn Fence.wide n P Q a w:=
 aHx (F:=Fence.wide) rfl (fun h=>(by cases h)) trivial hg eg (fun fn=>hcall (kK fn a.tmps ps assign body w.heap.size) (fun _ _ _ _ hl hps h=>aGs hl hps h))
end Go.Proofs.YtfanaanofjhlkaaGreatDoor
