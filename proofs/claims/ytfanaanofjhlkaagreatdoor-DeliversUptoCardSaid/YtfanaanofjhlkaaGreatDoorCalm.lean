import Derived.Test.YtfanaanofjhlkaaGreatDoorFine4
import Derived.Test.YtfanaanofjhlkaaGreatDoorRefPass
namespace Go.Proofs.YtfanaanofjhlkaaGreatDoor
open Go Go.RowKit
theorem oM{α:Type}(g:α->Nat):∀(l:List α) (i:Nat) (x y:α),l[i]?= some y->((l.set i x).map g).sum+g y=(l.map g).sum+g x
 |[],i,x,y,h=>by simp at h
 |a :: r,0,x,y,h=>by
  simp at h;subst h;simp;omega
 |a :: r,i+1,x,y,h=>by
  have:=oM g r i x y (by simpa using h);rw[List.set_cons_succ,List.map_cons,List.map_cons,List.sum_cons,List.sum_cons];omega
def eG(f:aI->Nat)(l:aO):Nat:=((l.all.drop l.came.toNat).map f).sum
def total(f:aI->Nat)(s:aE):Nat:=(s.links.map fun ls=>(ls.map (eG f)).sum).sum
theorem qX(f:aI->Nat){s:aE}{i j:Nat}(l:aO)(hl:s.links.length=s.W.length)(hr:∀ls∈s.links,ls.length=s.W.length)(hi:i < s.W.length)(hj:j < s.W.length):total f (aZ s i j l)+eG f (aF s i j)=total f s+eG f l:=by
 have h1:s.links[i]?= some (s.links[i]'(by omega)):=b_ _;have h2:=hr _ (d_ h1);have h3:(s.links[i]'(by omega))[j]?= some ((s.links[i]'(by omega))[j]'(by omega)):=b_ _;have e1:=oM (eG f) _ j l _ h3;have e2:=oM (fun ls=>(ls.map (eG f)).sum) s.links i ((s.links[i]'(by omega)).set j l) _ h1;have e3:aF s i j=(s.links[i]'(by omega))[j]'(by omega):=by
  unfold aF;rw[h1,Option.getD_some,h3,Option.getD_some]
 unfold total aZ;dsimp only;rw[h1,Option.getD_some,e3];omega
theorem mX(f:aI->Nat){s s':aE}(h:s.links=s'.links):total f s=total f s':=by
 unfold total;rw[h]
theorem xD(f:aI->Nat){N:Nat}{s:aE}(h:aN N s)(m:aI)(hi:m.src.toNat < s.W.length)(hj:m.dst.toNat < s.W.length):∃n,total f (aR s m)=total f s+f {m with no:=n}:=by
 have hl:=h.links _ _ hi hj;have e:=qX f {aF s m.src.toNat m.dst.toNat with all:=(aF s m.src.toNat m.dst.toNat).all++ [{m with no:=(aF s m.src.toNat m.dst.toNat).all.length+1}]} h.llen h.lrow hi hj;refine⟨(aF s m.src.toNat m.dst.toNat).all.length+1,?_⟩;have e2:total f (aR s m)=total f (aZ s m.src.toNat m.dst.toNat {aF s m.src.toNat m.dst.toNat with all:=(aF s m.src.toNat m.dst.toNat).all++ [{m with no:=(aF s m.src.toNat m.dst.toNat).all.length+1}]}):=by
  apply mX;unfold aR cB;dsimp only;split<;>split<;>rfl
 have e3:eG f {aF s m.src.toNat m.dst.toNat with all:=(aF s m.src.toNat m.dst.toNat).all++ [{m with no:=(aF s m.src.toNat m.dst.toNat).all.length+1}]}=eG f (aF s m.src.toNat m.dst.toNat)+f {m with no:=(aF s m.src.toNat m.dst.toNat).all.length+1}:=by
  unfold eG;dsimp only;rw[List.drop_append_of_le_length (by have:=hl.came;omega)];simp
 rw[e2];omega
theorem tR(f:aI->Nat){N:Nat}{s:aE}(h:aN N s){i j:Nat}(hi:i < s.W.length)(hj:j < s.W.length){m:aI}(hm:(aF s i j).all[(aF s i j).came.toNat]?= some m):total f (aZ s i j {aF s i j with came:=(aF s i j).came+1})+f m=total f s:=by
 have hl:=h.links _ _ hi hj;have e:=qX f {aF s i j with came:=(aF s i j).came+1} h.llen h.lrow hi hj;have e3:eG f (aF s i j)=f m+eG f {aF s i j with came:=(aF s i j).came+1}:=by
  unfold eG;dsimp only;have h0:=hl.came;obtain⟨hlt,hme⟩:=c_.1 hm;rw[show((aF s i j).came+1).toNat=(aF s i j).came.toNat+1 by omega,List.drop_eq_getElem_cons hlt,hme];simp
 omega
def fN(g:aL->Nat)(s:aE):Nat:=(s.W.map fun x=>(x.tasks.map g).sum).sum
theorem mW(g:aL->Nat){s:aE}{i:Nat}{x x':cF}(hx:s.W[i]?= some x):fN g {s with W:=s.W.set i x'}+(x.tasks.map g).sum=fN g s+(x'.tasks.map g).sum:=oM (fun x=>(x.tasks.map g).sum) s.W i x' x hx
theorem sum_append{α:Type}(g:α->Nat)(a b:List α):((a++b).map g).sum=(a.map g).sum+(b.map g).sum:=by simp
structure zV(ks:List aS)(g:aL->Nat)(o:ByteArray->Nat):Prop where
 one:∀t,gO ks t->g t=o t.id+((aW ks t).map g).sum
def dK(g:aL->Nat)(o:ByteArray->Nat)(m:aI):Nat:=if m.kind=2 then g m.t else if m.kind=4 then o m.v.1 else 0
def cS(g:aL->Nat)(o:ByteArray->Nat)(s:aE):Nat:=
 fN g s+(s.values.map fun v=>o v.1).sum+total (dK g o) s
theorem uN(o:ByteArray×Int->Nat):∀(l:List (ByteArray×Int)) (x:ByteArray×Int),((cP l x).map o).sum=(l.map o).sum+o x
 |[],x=>by simp[cP]
 |y :: r,x=>by
  unfold cP;split
  ·simp;omega
  ·have:=uN o r x
   simp;omega
theorem sO(g:aL->Nat){s s':aE}(h:s.W=s'.W):fN g s=fN g s':=by
 unfold fN;rw[h]
theorem aGl(g:aL->Nat)(s:aE)(m:aI)(hi:m.src.toNat < s.W.length):fN g (aR s m)=fN g s/\(aR s m).values=s.values:=by
 have hx:s.W[m.src.toNat]?= some (s.W[m.src.toNat]'hi):=b_ _;have e:=mW g (s:=s) (x':={s.W[m.src.toNat]?.getD cR with sent:=(s.W[m.src.toNat]?.getD cR).sent+1}) hx;have e1:(s.W[m.src.toNat]?.getD cR).tasks=(s.W[m.src.toNat]'hi).tasks:=by rw[hx,Option.getD_some]
 rw[show({s.W[m.src.toNat]?.getD cR with sent:=(s.W[m.src.toNat]?.getD cR).sent+1}:cF).tasks=(s.W[m.src.toNat]'hi).tasks from e1]at e;have e':=Nat.add_right_cancel e;unfold aR cB;dsimp only;split<;>split
 ·exact⟨(sO g rfl).trans e',rfl⟩
 ·exact⟨(sO g rfl).trans e',rfl⟩
 ·exact⟨rfl,rfl⟩
 ·exact⟨rfl,rfl⟩
theorem nC(g:aL->Nat)(o:ByteArray->Nat){N:Nat}{s:aE}(h:aN N s)(m:aI)(hi:m.src.toNat < s.W.length)(hj:m.dst.toNat < s.W.length):cS g o (aR s m)=cS g o s+dK g o m:=by
 obtain⟨n,e⟩:=xD (dK g o) h m hi hj;obtain⟨e1,e2⟩:=aGl g s m hi;unfold cS;rw[e1,e2];have:dK g o {m with no:=n}=dK g o m:=rfl;rw[this]at e;show _+total (dK g o) (aR s m)=_+total (dK g o) s+_;omega
theorem aKn{ks:List aS}{g:aL->Nat}{o:ByteArray->Nat}{N:Nat}{s:aE}(h:aN N s)(hk:s.ks=ks)(hT:zV ks g o)(i:Int):cS g o (cJ s i).1=cS g o s:=by
 subst hk;unfold cJ;split
 ·rfl
 ·rename_i hw
  obtain⟨h0,hlt⟩:=kO hw;obtain⟨hil,hie⟩:=h.nat h0 hlt;split
  ·rfl
  ·rename_i x hx
   have hxo:=h.works x (d_ hx);split
   ·rfl
   ·rename_i t ht
    have htm:t∈x.tasks:=List.mem_of_getLast? ht;have hg:=hT.one t (hxo.good t htm).1;split
    ·rfl
    ·rename_i hroom
     have hsum:(x.tasks.map g).sum=(x.tasks.dropLast.map g).sum+g t:=by
      have hne:x.tasks≠ []:=fun e=>by rw[e]at htm;simp at htm
      have e:=List.dropLast_concat_getLast hne;have e2:x.tasks.getLast hne=t:=by
       have:=List.getLast?_eq_some_getLast hne;rw[this]at ht;exact Option.some.inj ht
      rw[e2]at e
      conv=>lhs;rw[<-e]
      rw[sum_append];simp
     have e1:=mW g (s:=s) (x':={x with tasks:=x.tasks.dropLast++aW s.ks t}) hx;dsimp only at e1;rw[sum_append,hsum,hg]at e1;dsimp only;split
     ·have a1:cS g o {s with W:=s.W.set i.toNat {x with tasks:=x.tasks.dropLast++aW s.ks t},values:=cP s.values (t.id,cQ s.ks t)}=fN g {s with W:=s.W.set i.toNat {x with tasks:=x.tasks.dropLast++aW s.ks t}}+((cP s.values (t.id,cQ s.ks t)).map fun v=>o v.1).sum+total (dK g o) s:=rfl
      have a2:cS g o s=fN g s+(s.values.map fun v=>o v.1).sum+total (dK g o) s:=rfl;rw[uN]at a1;dsimp only at a1;show cS g o {s with W:=s.W.set i.toNat {x with tasks:=x.tasks.dropLast++aW s.ks t},values:=cP s.values (t.id,cQ s.ks t)}=_;omega
     ·rename_i hi0
      have hwk:kH s.ks N {x with tasks:=x.tasks.dropLast++aW s.ks t}:=by
       refine⟨?_,fun c hc=> ?_,hxo.sent,hxo.came,hxo.tok⟩
       ·have:=h.rmax
        have:x.tasks.length≠0:=fun e=>by rw[List.length_eq_zero_iff]at e;rw[e]at htm;simp at htm
        simp;omega
       ·rcases List.mem_append.1 hc with e|e
        ·exact hxo.good c ((List.dropLast_sublist _).subset e)
        ·exact sG h.prog (hxo.good t htm) c e
      have h2:=h.two;have hlen:=h.len;have b:=nC g o (h.reworker i.toNat hwk (a_ _)) {aH with src:=i,dst:=0,kind:=4,v:=(t.id,cQ s.ks t)} (by simpa using hil) (by simp;omega);rw[b];have a1:cS g o {s with W:=s.W.set i.toNat {x with tasks:=x.tasks.dropLast++aW s.ks t}}=fN g {s with W:=s.W.set i.toNat {x with tasks:=x.tasks.dropLast++aW s.ks t}}+(s.values.map fun v=>o v.1).sum+total (dK g o) s:=rfl;have a2:cS g o s=fN g s+(s.values.map fun v=>o v.1).sum+total (dK g o) s:=rfl;have a3:dK g o {aH with src:=i,dst:=0,kind:=4,v:=(t.id,cQ s.ks t)}=o t.id:=by simp[dK]
      omega
theorem aJm{g:aL->Nat}{o:ByteArray->Nat}{N:Nat}{s:aE}(h:aN N s){i j n:Nat}{m:aI}(hi:i < s.W.length)(hj:j < s.W.length)(hm:jQ s.ks (s.answers≠ []) N i j n m):cS g o (aX s m)=cS g o s+dK g o m:=by
 have hs0:=hm.src;have hd0:=hm.dst;have hx:s.W[m.dst.toNat]?= some (s.W[m.dst.toNat]'(by omega)):=b_ _;have a2:cS g o s=fN g s+(s.values.map fun v=>o v.1).sum+total (dK g o) s:=rfl;unfold aX;dsimp only;rw[hx,Option.getD_some];generalize s.W[m.dst.toNat]'_=x at hx ⊢;have hxo:=h.works x (d_ hx);have same:∀x':cF,x'.tasks=x.tasks->fN g {s with W:=s.W.set m.dst.toNat x'}=fN g s:=fun x' e=>by
  have:=mW g (x':=x') hx;rw[e]at this;omega
 split
 ·rename_i h1
  have w0:dK g o m=0:=by simp[dK,h1]
  split
  ·have b:=nC g o h {aH with src:=m.dst,dst:=m.src,kind:=3} (by show m.dst.toNat < _;omega) (by show m.src.toNat < _;omega)
   rw[b,w0];simp[dK]
  ·rename_i t r ht
   have hwk:kH s.ks N {x with tasks:=r}:=⟨by have:=hxo.few;rw[ht]at this;simp at this;dsimp only;omega,fun c hc=>hxo.good c (by rw[ht];exact List.mem_cons_of_mem _ hc),hxo.sent,hxo.came,hxo.tok⟩;have b:=nC g o (h.reworker m.dst.toNat hwk (a_ _)) {aH with src:=m.dst,dst:=m.src,kind:=2,t:=t} (by show m.dst.toNat < _;simp;omega) (by show m.src.toNat < _;simp;omega);rw[b,w0];have e1:=mW g (s:=s) (x':={x with tasks:=r}) hx;rw[ht]at e1;simp only[List.map_cons,List.sum_cons]at e1;have a1:cS g o {s with W:=s.W.set m.dst.toNat {x with tasks:=r}}=fN g {s with W:=s.W.set m.dst.toNat {x with tasks:=r}}+(s.values.map fun v=>o v.1).sum+total (dK g o) s:=rfl;have a3:dK g o {aH with src:=m.dst,dst:=m.src,kind:=2,t:=t}=g t:=by simp[dK]
   omega
 ·split
  ·rename_i h2
   have e1:=mW g (s:=s) (x':={x with came:=x.came+1,black:=true,asked:=false,tasks:=x.tasks++ [m.t]}) hx;rw[sum_append]at e1;simp only[List.map_cons,List.map_nil,List.sum_cons,List.sum_nil]at e1;have a1:cS g o {s with W:=s.W.set m.dst.toNat {x with came:=x.came+1,black:=true,asked:=false,tasks:=x.tasks++ [m.t]}}=fN g {s with W:=s.W.set m.dst.toNat {x with came:=x.came+1,black:=true,asked:=false,tasks:=x.tasks++ [m.t]}}+(s.values.map fun v=>o v.1).sum+total (dK g o) s:=rfl;have a3:dK g o m=g m.t:=by simp[dK,h2]
   omega
  ·rename_i h2
   split
   ·rename_i h3
    have a1:cS g o {s with W:=s.W.set m.dst.toNat {x with asked:=false}}=fN g {s with W:=s.W.set m.dst.toNat {x with asked:=false}}+(s.values.map fun v=>o v.1).sum+total (dK g o) s:=rfl;have a3:dK g o m=0:=by simp[dK,h3]
    have:=same {x with asked:=false} rfl;omega
   ·rename_i h3
    split
    ·rename_i h4
     have a1:cS g o {s with W:=s.W.set m.dst.toNat {x with came:=x.came+1,black:=true},values:=cP s.values m.v}=fN g {s with W:=s.W.set m.dst.toNat {x with came:=x.came+1,black:=true}}+((cP s.values m.v).map fun v=>o v.1).sum+total (dK g o) s:=rfl;have a3:dK g o m=o m.v.1:=by simp[dK,h4]
     have:=same {x with came:=x.came+1,black:=true} rfl;rw[uN]at a1;omega
    ·rename_i h4
     have a3:dK g o m=0:=by simp[dK,h2,h4]
     split
     ·have a1:cS g o {s with W:=s.W.set m.dst.toNat {x with has:=true,token:=m},around:=s.around||m.dst==0}=fN g {s with W:=s.W.set m.dst.toNat {x with has:=true,token:=m}}+(s.values.map fun v=>o v.1).sum+total (dK g o) s:=rfl
      have:=same {x with has:=true,token:=m} rfl;omega
     ·split
      ·have b:=nC g o h {aH with src:=m.dst,dst:=0,kind:=7,round:=m.round,sent:=x.sent,came:=x.came,idle:=x.tasks.isEmpty} (by show m.dst.toNat < _;omega) (by show(0:Int).toNat < _;simp;omega)
       rw[b,a3];simp[dK]
      ·split
       ·rw[a3]
        unfold dA;split<;>rfl
       ·rw[a3];rfl
theorem qT(g:aL->Nat)(o:ByteArray->Nat){s s':aE}(h1:s.links=s'.links)(h2:fN g s=fN g s')(h3:s.values=s'.values):cS g o s=cS g o s':=by
 unfold cS;rw[h2,h3,mX _ h1]
theorem pM(s:aE)(m:aI):(cB s m).links=s.links/\(cB s m).W=s.W/\(cB s m).values=s.values:=by
 unfold cB;split<;>exact⟨rfl,rfl,rfl⟩
theorem uK(g:aL->Nat)(o:ByteArray->Nat)(s:aE)(m:aI):cS g o (cB s m)=cS g o s:=
 qT g o (pM s m).1 (sO g (pM s m).2.1) (pM s m).2.2
theorem wS(g:aL->Nat)(o:ByteArray->Nat){N:Nat}{s:aE}(h:aN N s){i j:Nat}(hi:i < s.W.length)(hj:j < s.W.length){l:aO}(ha:l.all=(aF s i j).all)(hc:l.came=(aF s i j).came):cS g o (aZ s i j l)=cS g o s:=by
 have e:=qX (dK g o) l h.llen h.lrow hi hj;have e2:eG (dK g o) l=eG (dK g o) (aF s i j):=by
  unfold eG;rw[ha,hc]
 have a1:cS g o (aZ s i j l)=fN g s+(s.values.map fun v=>o v.1).sum+total (dK g o) (aZ s i j l):=rfl;have a2:cS g o s=fN g s+(s.values.map fun v=>o v.1).sum+total (dK g o) s:=rfl;omega
theorem aHi{g:aL->Nat}{o:ByteArray->Nat}{N:Nat}{s:aE}(h:aN N s)(i v:Int):cS g o (eE s i v).1=cS g o s:=by
 unfold eE;split
 ·rfl
 ·rename_i hi
  split
  ·rfl
  ·rename_i hv
   split
   ·rfl
   ·obtain⟨hi0,hi1⟩:=kO hi
    obtain⟨hv0,hv1⟩:=kO hv;obtain⟨hil,hie⟩:=h.nat hi0 hi1;obtain⟨hvl,hve⟩:=h.nat hv0 hv1;split
    ·rfl
    ·rename_i x hx
     have hxo:=h.works x (d_ hx);split
     ·rfl
     ·have b:=nC g o (h.reworker i.toNat (x:={x with asked:=true}) ⟨hxo.few,hxo.good,hxo.sent,hxo.came,hxo.tok⟩ (a_ _)) {aH with src:=i,dst:=v,kind:=1} (by simpa using hil) (by simpa using hvl)
      rw[b];have e:=mW g (s:=s) (x':={x with asked:=true}) hx;dsimp only at e;have a1:=qT g o (s:={s with W:=s.W.set i.toNat {x with asked:=true}}) (s':=s) rfl (by omega) rfl;rw[a1];simp[dK]
theorem aJc{g:aL->Nat}{o:ByteArray->Nat}(s:aE)(k:Int):cS g o (fX s k).1=cS g o s:=by
 unfold fX;split<;>rfl
theorem aIh{g:aL->Nat}{o:ByteArray->Nat}(s:aE)(k:Int):cS g o (fS s k).1=cS g o s:=by
 unfold fS;split
 ·rfl
 ·exact uK g o _ _
theorem aJi{g:aL->Nat}{o:ByteArray->Nat}(s:aE)(i:Int):cS g o (fV s i).1=cS g o s:=by
 unfold fV;split
 ·rfl
 ·have key:∀(L:List aO) (s:aE),cS g o (L.foldl dO s)=cS g o s:=by
   intro L
   induction L with
   |nil=>intro s;rfl
   |cons l r ih=>
    intro s;rw[List.foldl_cons,ih];unfold dO;split
    ·exact uK g o _ _
    ·rfl
  exact key _ _
theorem aJk{g:aL->Nat}{o:ByteArray->Nat}{N:Nat}{s:aE}(h:aN N s){i j:Nat}(hi:i < s.W.length)(hj:j < s.W.length)(hb:gM (aF s i j)=true):cS g o (fU s i j)=cS g o s:=by
 have hl:=h.links i j hi hj;have hmem:(aF s i j).came+1∈(aF s i j).kept:=by
  unfold gM at hb;obtain⟨y,hy,hye⟩:=List.any_eq_true.1 hb;have:y=(aF s i j).came+1:=by simpa using hye
  rw[<-this];exact hy
 have hk:=hl.kept _ hmem;have hc:=hl.came;have hs1:aN N (aZ s i j {aF s i j with came:=(aF s i j).came+1}):=h.relink hi hj (L:=[]) (by simp) ⟨hl.msgs,hl.all,hl.known,by dsimp only;omega,fun n hn=>by have:=hl.kept n hn;dsimp only;omega,hl.klen⟩ (a_ _);have hg:(aF s i j).all[(aF s i j).came.toNat]?= some ((aF s i j).all[(aF s i j).came.toNat]'(by omega)):=b_ _;have hm:=hl.msgs _ _ hg;have e1:=tR (dK g o) h hi hj hg;have e2:=aJm (g:=g) (o:=o) hs1 hi hj hm;have a1:cS g o (aZ s i j {aF s i j with came:=(aF s i j).came+1})=fN g s+(s.values.map fun v=>o v.1).sum+total (dK g o) (aZ s i j {aF s i j with came:=(aF s i j).came+1}):=rfl;have a2:cS g o s=fN g s+(s.values.map fun v=>o v.1).sum+total (dK g o) s:=rfl;unfold fU;rw[hg,Option.getD_some,e2];omega
theorem aN.step{N:Nat}{s:aE}(h:aN N s)(hN:N<=90000000){i j:Nat}(hi:i < s.W.length)(hj:j < s.W.length)(hb:gM (aF s i j)=true):aN (N+1) (fU s i j)/\aF (fU s i j) i j={aF s i j with came:=(aF s i j).came+1}/\(fU s i j).W.length=s.W.length/\(aF s i j).came+1∈(aF s i j).kept:=by
 have hl:=h.links i j hi hj;have hmem:(aF s i j).came+1∈(aF s i j).kept:=by
  unfold gM at hb;obtain⟨y,hy,hye⟩:=List.any_eq_true.1 hb;have:y=(aF s i j).came+1:=by simpa using hye
  rw[<-this];exact hy
 have hk:=hl.kept _ hmem;have hc:=hl.came;have hs1:aN N (aZ s i j {aF s i j with came:=(aF s i j).came+1}):=h.relink hi hj (L:=[]) (by simp) ⟨hl.msgs,hl.all,hl.known,by dsimp only;omega,fun n hn=>by have:=hl.kept n hn;dsimp only;omega,hl.klen⟩ (a_ _);have hg:(aF s i j).all[(aF s i j).came.toNat]?= some ((aF s i j).all[(aF s i j).came.toNat]'(by omega)):=b_ _;have hm:=hl.msgs _ _ hg;have hst:fU s i j=aX (aZ s i j {aF s i j with came:=(aF s i j).came+1}) ((aF s i j).all[(aF s i j).came.toNat]'(by omega)):=by
  unfold fU;rw[hg,Option.getD_some]
 obtain⟨hlk,hlw⟩:=pA hs1 hi hj hm;rw[<-hst]at hlk hlw;rw[mH _ h.llen h.lrow hi hj,if_pos ⟨rfl,rfl⟩]at hlk;exact⟨by rw[hst];exact hs1.came (by omega) hi hj hm,hlk,hlw,hmem⟩
theorem aJr{g:aL->Nat}{o:ByteArray->Nat}{i j:Nat}:∀(f d N:Nat) (s:aE),aN N s->i < s.W.length->j < s.W.length->N+d<=90000000->(∀n∈(aF s i j).kept,n<=(aF s i j).came+d)->cS g o (fQ f s i j)=cS g o s:=by
 intro f
 induction f with
 |zero=>intro d N s _ _ _ _ _;rfl
 |succ f ih=>
  intro d N s h hi hj hN hd;unfold fQ;split
  ·rename_i hb
   obtain⟨h1,h2,h3,h4⟩:=h.step (by omega) hi hj hb;have hd1:=hd _ h4;rw[ih (d - 1) (N+1) _ h1 (by omega) (by omega) (by omega) (fun n hn=>by rw[h2]at hn ⊢;have:=hd n hn;dsimp only;omega)];exact aJk h hi hj hb
  ·rfl
theorem aEn{g:aL->Nat}{o:ByteArray->Nat}{N:Nat}{s:aE}(h:aN N s)(hN:N+5<=90000000)(k:Int):cS g o (eB s k).1=cS g o s:=by
 unfold eB;split
 ·rfl
 ·rename_i hme
  obtain⟨h0,h1⟩:=nN hme;have hg:s.way[k.toNat]?= some (s.way[k.toNat]'(by omega)):=b_ _;have hw:=h.ways _ (d_ hg);rw[hg];dsimp only[Option.getD_some];generalize s.way[k.toNat]=m at hw ⊢;have hu:=h.unway k.toNat;obtain⟨hsl,hse⟩:=h.nat hw.src.1 hw.src.2;obtain⟨hdl,hde⟩:=h.nat hw.dst.1 hw.dst.2;split
  ·split
   ·exact(wS g o hu hdl hsl (l:={aF {s with way:=s.way.take k.toNat++s.way.drop (k.toNat+1)} m.dst.toNat m.src.toNat with known:=m.no}) rfl rfl).trans rfl
   ·rfl
  ·rename_i hk0
   obtain⟨n,hn,hne⟩:=hw.sent hk0;have hnl:=(c_.1 hne).1;have hkp:=hu.keep hsl hdl (n:=m.no) (by rw[hn];show(n:Int)+1<=((aF s m.src.toNat m.dst.toNat).all.length:Int);omega);rw[uK,aJr _ 4 _ _ hkp hsl hdl (by omega) (fun a ha=>((hkp.links _ _ hsl hdl).kept a ha).2.2)];refine(wS g o hu hsl hdl ?_ ?_).trans rfl
   ·unfold bI
    split<;>rfl
   ·unfold bI
    split<;>rfl
theorem aKl{g:aL->Nat}{o:ByteArray->Nat}{N:Nat}{s:aE}(h:aN N s)(i:Int):cS g o (eL s i).1=cS g o s:=by
 unfold eL;split
 ·rfl
 ·rename_i hw
  obtain⟨h0,hlt⟩:=kO hw;obtain⟨hil,hie⟩:=h.nat h0 hlt;split
  ·rfl
  ·rename_i x hx
   split
   ·rfl
   ·rename_i hc
    have hi0:i≠0:=fun e=>hc (.inr (.inl e))
    have b:=nC g o h {aH with src:=i,dst:=i - 1,kind:=5,count:=x.token.count+x.sent - x.came,black:=x.token.black||x.black} hil (by show(i - 1).toNat < _;omega);have hW:(aR s {aH with src:=i,dst:=i - 1,kind:=5,count:=x.token.count+x.sent - x.came,black:=x.token.black||x.black}).W=s.W:=uP s _ (by dsimp only;decide);dsimp only;rw[show cS g o s=cS g o s+dK g o {aH with src:=i,dst:=i - 1,kind:=5,count:=x.token.count+x.sent - x.came,black:=x.token.black||x.black} by simp[dK],<-b];refine qT g o rfl ?_ rfl;have e:=mW g (s:=aR s {aH with src:=i,dst:=i - 1,kind:=5,count:=x.token.count+x.sent - x.came,black:=x.token.black||x.black}) (x':={x with black:=false,has:=false}) (i:=i.toNat) (x:=x) (by rw[hW];exact hx);exact Nat.add_right_cancel e
theorem aHq{g:aL->Nat}{o:ByteArray->Nat}{n:Int}:∀(L:List Nat) (N:Nat) (s:aE),aN N s->s.answers≠ []->(∀k∈L,1<=k/\k < s.W.length)->cS g o (L.foldl (eR n) s)=cS g o s:=by
 intro L
 induction L with
 |nil=>intro N s h _ _;rfl
 |cons k r ih=>
  intro N s h ha hL;have hk:=hL k (List.mem_cons_self ..);obtain⟨e1,e2,-⟩:=pC s {aH with src:=0,dst:=k,kind:=6,round:=n};have hs:aN (N+1) (eR n s k):=h.waves [k] _ _ ha (fun a b=>by rw[List.mem_singleton.1 b];exact hk);rw[List.foldl_cons,ih (N+1) (eR n s k) hs (by show(aR _ _).answers≠ [];rw[e1];exact ha) (fun a b=>by show 1<=a/\a < (aR _ _).W.length;rw[e2];exact hL a (List.mem_cons_of_mem _ b))];have b:=nC g o h {aH with src:=0,dst:=k,kind:=6,round:=n} (by show(0:Int).toNat < _;simp;omega) (by show(k:Int).toNat < _;simp;omega);exact b.trans (by simp[dK])
theorem aHw{g:aL->Nat}{o:ByteArray->Nat}{N:Nat}{s:aE}(h:aN N s)(hN:N<=1000000000):cS g o (fJ s).1=cS g o s:=by
 have h2:=h.two;have hl:=h.len;unfold fJ;split
 ·rfl
 ·split
  ·unfold fP
   split
   ·rfl
   ·rename_i x hx
    have hxo:=h.works x (d_ hx);split
    ·rfl
    ·split
     ·rfl
     ·have b:=nC g o (h.reworker 0 (x:={x with black:=false,has:=false}) ⟨hxo.few,hxo.good,hxo.sent,hxo.came,hxo.tok⟩ (a_ _)) {aH with src:=0,dst:=s.workers - 1,kind:=5} (by show(0:Int).toNat < _;simp;omega) (by show(s.workers - 1).toNat < _;simp;omega)
      rw[b];have e:=mW g (s:=s) (x':={x with black:=false,has:=false}) hx;dsimp only at e;rw[qT g o (s:={s with W:=s.W.set 0 {x with black:=false,has:=false}}) (s':=s) rfl (by omega) rfl];simp[dK]
  ·unfold gD
   split
   ·rfl
   ·rename_i x hx
    have hxo:=h.works x (d_ hx);split
    ·rfl
    ·split
     ·rfl
     ·have h3:aN (N+1) {s with answers:=s.answers++ [⟨0,0,0,true⟩]}:=h.reans (by have:=h.alen;simp;omega) (by simp) (fun a ha=>by
       rcases List.mem_append.1 ha with e|e
       ·exact(h.ans a e).more (Nat.le_succ N)
       ·rw[List.mem_singleton.1 e];exact⟨by dsimp only;omega,by dsimp only;omega,by dsimp only;omega⟩) (Nat.le_succ N)
      have hsn:=hxo.sent;have hcm:=hxo.came;have h4:=h3.noted (a:=x.sent) (b:=x.came) true (by omega) (by omega);have hne:(dA {s with answers:=s.answers++ [⟨0,0,0,true⟩]} x.sent x.came true).answers≠ []:=by
       unfold dA;split<;>simp
      have hwl:(dA {s with answers:=s.answers++ [⟨0,0,0,true⟩]} x.sent x.came true).W.length=s.W.length:=by
       unfold dA;split<;>rfl
      refine(aHq (List.range' 1 (s.W.length - 1)) (N+1+1) _ h4 hne (fun k hk=> ?_)).trans ?_
      ·rw[hwl]
       have:=List.mem_range'_1.1 hk;omega
      ·unfold dA
       split<;>rfl
theorem aKt{g:aL->Nat}{o:ByteArray->Nat}(workers room mode kind arg:Int)(ks:List aS):cS g o (dD workers room mode ks kind arg)=g ⟨⟨#[]⟩,kind,arg⟩:=by
 have e:∀n:Nat,((List.replicate n cR).map fun x=>(x.tasks.map g).sum).sum=0:=fun n=>by
  induction n with
  |zero=>rfl
  |succ n ih=>rw[List.replicate_succ,List.map_cons,List.sum_cons,ih];rfl
 have e2:∀n:Nat,((List.replicate n cN).map (eG (dK g o))).sum=0:=fun n=>by
  induction n with
  |zero=>rfl
  |succ n ih=>rw[List.replicate_succ,List.map_cons,List.sum_cons,ih];rfl
 have e3:∀n k:Nat,((List.replicate n (List.replicate k cN)).map fun ls=>(ls.map (eG (dK g o))).sum).sum=0:=fun n k=>by
  induction n with
  |zero=>rfl
  |succ n ih=>rw[List.replicate_succ,List.map_cons,List.sum_cons,ih,e2]
 unfold cS fN total dD;dsimp only;rw[List.map_cons,List.sum_cons,e,e3];simp
def eJ(k:Nat)(m:aI):Nat:=if(m.kind=1/\m.src=k)\/((m.kind=2\/m.kind=3)/\m.dst=k)then 1 else 0
structure cC(e:Nat->Nat)(s:aE):Prop where
 one:∀(i:Nat) (x:cF),s.W[i]?= some x->total (eJ i) s+e i<=(if x.asked=true then 1 else 0)
 free:∀(i:Nat) (x:cF),s.W[i]?= some x->x.asked=true->x.tasks=[]
 room:∀(i:Nat) (x:cF),s.W[i]?= some x->(x.tasks.length:Int)<=s.room
theorem aIx(s:aE)(m:aI){i:Nat}{x:cF}(h:(aR s m).W[i]?= some x):∃y,s.W[i]?= some y/\x.asked=y.asked/\x.tasks=y.tasks:=by
 have key:∀y:cF,(s.W.set m.src.toNat {(s.W[m.src.toNat]?.getD cR)with sent:=(s.W[m.src.toNat]?.getD cR).sent+1})[i]?= some y->∃z,s.W[i]?= some z/\y.asked=z.asked/\y.tasks=z.tasks:=fun y hy=>by
  rw[List.getElem?_set]at hy;by_cases hi:m.src.toNat=i
  ·subst hi
   rw[if_pos rfl]at hy;split at hy
   ·rename_i hl
    have hx:s.W[m.src.toNat]?= some (s.W[m.src.toNat]'hl):=b_ _;rw[hx,Option.getD_some]at hy;have:=Option.some.inj hy;subst this;exact⟨_,hx,rfl,rfl⟩
   ·cases hy
  ·rw[if_neg hi]at hy
   exact⟨y,hy,rfl,rfl⟩
 unfold aR cB at h;dsimp only at h;split at h<;>split at h
 ·exact key x h
 ·exact key x h
 ·exact⟨x,h,rfl,rfl⟩
 ·exact⟨x,h,rfl,rfl⟩
theorem aIk(s:aE)(m:aI):(aR s m).room=s.room:=by
 unfold aR cB;dsimp only;split<;>split<;>rfl
theorem cC.send{e e':Nat->Nat}{N:Nat}{s:aE}(hp:cC e s)(h:aN N s){m:aI}(hi:m.src.toNat < s.W.length)(hj:m.dst.toNat < s.W.length)(he:∀k,e' k+eJ k m<=e k):cC e' (aR s m):=by
 refine⟨fun i x hx=> ?_,fun i x hx ha=> ?_,fun i x hx=> ?_⟩
 all_goals obtain⟨y,hy,h1,h2⟩:=aIx s m hx
 ·obtain⟨n,ht⟩:=xD (eJ i) h m hi hj
  have:eJ i {m with no:=n}=eJ i m:=rfl;rw[this]at ht;have h3:=hp.one i y hy;have h4:=he i;rw[h1,ht];omega
 ·rw[h2];rw[h1]at ha;exact hp.free i y hy ha
 ·rw[h2,aIk];exact hp.room i y hy
theorem cC.reworker{e e':Nat->Nat}{s:aE}(hp:cC e s){i:Nat}{x:cF}(h1:total (eJ i) s+e' i<=(if x.asked=true then 1 else 0))(h2:x.asked=true->x.tasks=[])(h3:(x.tasks.length:Int)<=s.room)(he:∀k,k≠i->e' k<=e k):cC e' {s with W:=s.W.set i x}:=by
 have key:∀k y,(s.W.set i x)[k]?= some y->(k=i/\y=x)\/(k≠i/\s.W[k]?= some y):=fun k y hy=>by
  rw[List.getElem?_set]at hy;by_cases hk:i=k
  ·subst hk
   rw[if_pos rfl]at hy;split at hy
   ·exact .inl ⟨rfl,(Option.some.inj hy).symm⟩
   ·cases hy
  ·rw[if_neg hk]at hy
   exact .inr ⟨fun e=>hk e.symm,hy⟩
 have ht:∀k,total (eJ k) {s with W:=s.W.set i x}=total (eJ k) s:=fun k=>mX _ rfl
 refine⟨fun k y hy=> ?_,fun k y hy ha=> ?_,fun k y hy=> ?_⟩
 all_goals rcases key k y hy with⟨rfl,rfl⟩|⟨hk,hy'⟩
 ·rw[ht];exact h1
 ·rw[ht]
  have:=hp.one k y hy';have:=he k hk;omega
 ·exact h2 ha
 ·exact hp.free k y hy' ha
 ·exact h3
 ·exact hp.room k y hy'
theorem cC.rest{e:Nat->Nat}{s s':aE}(hp:cC e s)(h1:s'.W=s.W)(h2:s'.links=s.links)(h3:s'.room=s.room):cC e s':=
 ⟨fun i x hx=>by rw[h1]at hx;rw[mX (eJ i) h2];exact hp.one i x hx,fun i x hx ha=>by rw[h1]at hx;exact hp.free i x hx ha,fun i x hx=>by rw[h1]at hx;rw[h3];exact hp.room i x hx⟩
theorem cC.less{e e':Nat->Nat}{s:aE}(hp:cC e s)(he:∀k,e' k<=e k):cC e' s:=
 ⟨fun i x hx=>by have:=hp.one i x hx;have:=he i;omega,hp.free,hp.room⟩
theorem cC.came{N:Nat}{s:aE}{i j n:Nat}{m:aI}(hp:cC (fun k=>eJ k m) s)(h:aN N s)(hi:i < s.W.length)(hj:j < s.W.length)(hm:jQ s.ks (s.answers≠ []) N i j n m):cC (fun _=>0) (aX s m):=by
 have hs0:=hm.src;have hd0:=hm.dst;have hx:s.W[m.dst.toNat]?= some (s.W[m.dst.toNat]'(by omega)):=b_ _;unfold aX;dsimp only;rw[hx,Option.getD_some];generalize s.W[m.dst.toNat]'_=x at hx ⊢;have hxo:=h.works x (d_ hx);have p1:=hp.one _ x hx;have p2:=hp.free _ x hx;have p3:=hp.room _ x hx;have ed:((m.dst.toNat:Nat):Int)=m.dst:=by omega
 split
 ·rename_i h1
  split
  ·refine hp.send h (by show m.dst.toNat < _;omega) (by show m.src.toNat < _;omega) (fun k=> ?_)
   show 0+eJ k _<=eJ k m;simp only[eJ,h1];by_cases hk:m.src=(k:Int)<;>simp[hk]
  ·rename_i t r ht
   have hna:x.asked≠true:=fun e=>by have:=p2 e;rw[ht]at this;cases this
   have hwk:kH s.ks N {x with tasks:=r}:=⟨by have:=hxo.few;rw[ht]at this;simp at this;dsimp only;omega,fun c hc=>hxo.good c (by rw[ht];exact List.mem_cons_of_mem _ hc),hxo.sent,hxo.came,hxo.tok⟩;have hp1:cC (fun k=>eJ k m) {s with W:=s.W.set m.dst.toNat {x with tasks:=r}}:=hp.reworker p1 (fun e=>absurd e hna) (by rw[ht]at p3;simp at p3;dsimp only;omega) (fun _ _=>a_ _);refine hp1.send (h.reworker m.dst.toNat hwk (a_ _)) (by show m.dst.toNat < _;simp;omega) (by show m.src.toNat < _;simp;omega) (fun k=> ?_);show 0+eJ k _<=eJ k m;simp only[eJ,h1];by_cases hk:m.src=(k:Int)<;>simp[hk]
 ·split
  ·rename_i h2
   have ha:eJ m.dst.toNat m=1:=by simp[eJ,h2,ed]
   rw[ha]at p1;have hasked:x.asked=true:=by
    by_cases e:x.asked=true
    ·exact e
    ·rw[if_neg e]at p1;omega
   rw[if_pos hasked]at p1;have hr:=h.rmin;refine hp.reworker ?_ (fun e=>by simp at e) ?_ (fun _ _=>Nat.zero_le _)
   ·simp;omega
   ·rw[p2 hasked];simp;omega
  ·rename_i h2
   split
   ·rename_i h3
    have ha:eJ m.dst.toNat m=1:=by simp[eJ,h3,ed]
    rw[ha]at p1;have:(if x.asked=true then 1 else 0)<=1:=by split<;>omega
    refine hp.reworker ?_ (fun e=>by simp at e) p3 (fun _ _=>Nat.zero_le _);simp;omega
   ·rename_i h1 h3
    have hp0:cC (fun _=>0) s:=hp.less (fun _=>Nat.zero_le _);have q1:=hp0.one _ x hx;split
    ·exact(hp0.reworker (x:={x with came:=x.came+1,black:=true}) q1 p2 p3 (fun _ _=>a_ _)).rest rfl rfl rfl
    ·split
     ·exact(hp0.reworker (x:={x with has:=true,token:=m}) q1 p2 p3 (fun _ _=>a_ _)).rest rfl rfl rfl
     ·split
      ·refine hp0.send h (by show m.dst.toNat < _;omega) (by show(0:Int).toNat < _;simp;omega) (fun k=> ?_)
       simp[eJ]
      ·split
       ·unfold dA
        split
        ·exact hp0
        ·exact hp0.rest rfl rfl rfl
       ·exact hp0
theorem cC.relink{e e':Nat->Nat}{N:Nat}{s:aE}(hp:cC e s)(h:aN N s){i j:Nat}(hi:i < s.W.length)(hj:j < s.W.length){l:aO}(hl:∀k,eG (eJ k) l+e' k<=eG (eJ k) (aF s i j)+e k):cC e' (aZ s i j l):=by
 refine⟨fun k x hx=> ?_,hp.free,hp.room⟩;have h1:=qX (eJ k) l h.llen h.lrow hi hj;have h2:=hp.one k x hx;have h3:=hl k;omega
theorem cC.step{N:Nat}{s:aE}(hp:cC (fun _=>0) s)(h:aN N s){i j:Nat}(hi:i < s.W.length)(hj:j < s.W.length)(hb:gM (aF s i j)=true):cC (fun _=>0) (fU s i j):=by
 have hl:=h.links i j hi hj;have hmem:(aF s i j).came+1∈(aF s i j).kept:=by
  unfold gM at hb;obtain⟨y,hy,hye⟩:=List.any_eq_true.1 hb;have:y=(aF s i j).came+1:=by simpa using hye
  rw[<-this];exact hy
 have hk:=hl.kept _ hmem;have hc:=hl.came;have hs1:aN N (aZ s i j {aF s i j with came:=(aF s i j).came+1}):=h.relink hi hj (L:=[]) (by simp) ⟨hl.msgs,hl.all,hl.known,by dsimp only;omega,fun n hn=>by have:=hl.kept n hn;dsimp only;omega,hl.klen⟩ (a_ _);have hg:(aF s i j).all[(aF s i j).came.toNat]?= some ((aF s i j).all[(aF s i j).came.toNat]'(by omega)):=b_ _;have hm:=hl.msgs _ _ hg;unfold fU;rw[hg,Option.getD_some];refine cC.came ?_ hs1 hi hj hm;refine⟨fun k x hx=> ?_,hp.free,hp.room⟩;have h1:=tR (eJ k) h hi hj hg;have h2:=hp.one k x hx;omega
theorem cC.come{i j:Nat}:∀(f d N:Nat) (s:aE),cC (fun _=>0) s->aN N s->i < s.W.length->j < s.W.length->N+d<=90000000->(∀n∈(aF s i j).kept,n<=(aF s i j).came+d)->cC (fun _=>0) (fQ f s i j):=by
 intro f
 induction f with
 |zero=>intro d N s hp _ _ _ _ _;exact hp
 |succ f ih=>
  intro d N s hp h hi hj hN hd;unfold fQ;split
  ·rename_i hb
   obtain⟨h1,h2,h3,h4⟩:=h.step (by omega) hi hj hb;have hd1:=hd _ h4;exact ih (d - 1) (N+1) _ (hp.step h hi hj hb) h1 (by omega) (by omega) (by omega) (fun n hn=>by rw[h2]at hn ⊢;have:=hd n hn;dsimp only;omega)
  ·exact hp
theorem aJn(s:aE)(m:aI):(cB s m).room=s.room:=by
 unfold cB;split<;>rfl
theorem cC.way{e:Nat->Nat}{s:aE}(hp:cC e s)(m:aI):cC e (cB s m):=hp.rest (pM s m).2.1 (pM s m).1 (aJn s m)
theorem cC.deliver{N:Nat}{s:aE}(hp:cC (fun _=>0) s)(h:aN N s)(hN:N+5<=90000000)(k:Int):cC (fun _=>0) (eB s k).1:=by
 unfold eB;split
 ·exact hp
 ·rename_i hme
  obtain⟨h0,h1⟩:=nN hme;have hg:s.way[k.toNat]?= some (s.way[k.toNat]'(by omega)):=b_ _;have hw:=h.ways _ (d_ hg);rw[hg];dsimp only[Option.getD_some];generalize s.way[k.toNat]=m at hw ⊢;have hu:=h.unway k.toNat;have hpu:cC (fun _=>0) {s with way:=s.way.take k.toNat++s.way.drop (k.toNat+1)}:=hp.rest rfl rfl rfl;obtain⟨hsl,hse⟩:=h.nat hw.src.1 hw.src.2;obtain⟨hdl,hde⟩:=h.nat hw.dst.1 hw.dst.2;split
  ·split
   ·exact hpu.relink hu hdl hsl (l:={aF {s with way:=s.way.take k.toNat++s.way.drop (k.toNat+1)} m.dst.toNat m.src.toNat with known:=m.no}) (fun _=>a_ _)
   ·exact hpu
  ·rename_i hk0
   obtain⟨n,hn,hne⟩:=hw.sent hk0;have hnl:=(c_.1 hne).1;have hkp:=hu.keep hsl hdl (n:=m.no) (by rw[hn];show(n:Int)+1<=((aF s m.src.toNat m.dst.toNat).all.length:Int);omega);have hpk:cC (fun _=>0) (aZ {s with way:=s.way.take k.toNat++s.way.drop (k.toNat+1)} m.src.toNat m.dst.toNat (bI (aF {s with way:=s.way.take k.toNat++s.way.drop (k.toNat+1)} m.src.toNat m.dst.toNat) m.no)):=hpu.relink hu hsl hdl (fun a=>by
    have:eG (eJ a) (bI (aF {s with way:=s.way.take k.toNat++s.way.drop (k.toNat+1)} m.src.toNat m.dst.toNat) m.no)=eG (eJ a) (aF {s with way:=s.way.take k.toNat++s.way.drop (k.toNat+1)} m.src.toNat m.dst.toNat):=by
     unfold bI;split<;>rfl
    rw[this];exact a_ _)
   exact(cC.come _ 4 _ _ hpk hkp hsl hdl (by omega) (fun a ha=>((hkp.links _ _ hsl hdl).kept a ha).2.2)).way _
theorem cC.steal{N:Nat}{s:aE}(hp:cC (fun _=>0) s)(h:aN N s)(i v:Int):cC (fun _=>0) (eE s i v).1:=by
 unfold eE;split
 ·exact hp
 ·rename_i hi
  split
  ·exact hp
  ·rename_i hv
   split
   ·exact hp
   ·obtain⟨hi0,hi1⟩:=kO hi
    obtain⟨hv0,hv1⟩:=kO hv;obtain⟨hil,hie⟩:=h.nat hi0 hi1;obtain⟨hvl,hve⟩:=h.nat hv0 hv1;split
    ·exact hp
    ·rename_i x hx
     have hxo:=h.works x (d_ hx);split
     ·exact hp
     ·rename_i hc
      have hc1:x.tasks=[]:=Classical.byContradiction fun e=>hc (.inl e)
      have hc2:¬x.asked=true:=fun e=>hc (.inr e)
      have p1:=hp.one _ x hx;rw[if_neg hc2]at p1;have hr:=h.rmin;have hp1:cC (fun k=>if k=i.toNat then 1 else 0) {s with W:=s.W.set i.toNat {x with asked:=true}}:=by
       refine cC.reworker (e:=fun _=>0) hp ?_ (fun _=>hc1) (by rw[hc1];simp;omega) (fun k hk=>by simp[hk]);simp;omega
      refine hp1.send (h.reworker i.toNat (x:={x with asked:=true}) ⟨hxo.few,hxo.good,hxo.sent,hxo.came,hxo.tok⟩ (a_ _)) (by simpa using hil) (by simpa using hvl) (fun k=> ?_);by_cases hk:k=i.toNat
      ·rw[if_pos hk]
       unfold eJ;split<;>omega
      ·have:¬i=(k:Int):=by omega
       simp[eJ,this,hk]
theorem cC.work{N:Nat}{s:aE}(hp:cC (fun _=>0) s)(h:aN N s)(i:Int):cC (fun _=>0) (cJ s i).1:=by
 unfold cJ;split
 ·exact hp
 ·rename_i hw
  obtain⟨h0,hlt⟩:=kO hw;obtain⟨hil,hie⟩:=h.nat h0 hlt;split
  ·exact hp
  ·rename_i x hx
   have hxo:=h.works x (d_ hx);split
   ·exact hp
   ·rename_i t ht
    have htm:t∈x.tasks:=List.mem_of_getLast? ht;have hna:x.asked≠true:=fun e=>by rw[hp.free _ x hx e]at htm;simp at htm
    split
    ·exact hp.rest rfl rfl rfl
    ·rename_i hroom
     have hne:x.tasks.length≠0:=fun e=>by rw[List.length_eq_zero_iff]at e;rw[e]at htm;simp at htm
     have hp1:cC (fun _=>0) {s with W:=s.W.set i.toNat {x with tasks:=x.tasks.dropLast++aW s.ks t}}:=hp.reworker (hp.one _ x hx) (fun e=>absurd e hna) (by simp;omega) (fun _ _=>a_ _);dsimp only;split
     ·exact hp1.rest rfl rfl rfl
     ·have hwk:kH s.ks N {x with tasks:=x.tasks.dropLast++aW s.ks t}:=by
       refine⟨?_,fun c hc=> ?_,hxo.sent,hxo.came,hxo.tok⟩
       ·have:=h.rmax
        simp;omega
       ·rcases List.mem_append.1 hc with e|e
        ·exact hxo.good c ((List.dropLast_sublist _).subset e)
        ·exact sG h.prog (hxo.good t htm) c e
      have h2:=h.two;have hlen:=h.len;refine hp1.send (h.reworker i.toNat hwk (a_ _)) (by simpa using hil) (by simp;omega) (fun k=> ?_);simp[eJ]
theorem cC.drop{s:aE}(hp:cC (fun _=>0) s)(k:Int):cC (fun _=>0) (fX s k).1:=by
 unfold fX;split
 ·exact hp
 ·exact hp.rest rfl rfl rfl
theorem cC.twice{s:aE}(hp:cC (fun _=>0) s)(k:Int):cC (fun _=>0) (fS s k).1:=by
 unfold fS;split
 ·exact hp
 ·exact hp.way _
theorem cC.tick{s:aE}(hp:cC (fun _=>0) s)(i:Int):cC (fun _=>0) (fV s i).1:=by
 unfold fV;split
 ·exact hp
 ·have key:∀(L:List aO) (s:aE),cC (fun _=>0) s->cC (fun _=>0) (L.foldl dO s):=by
   intro L
   induction L with
   |nil=>intro s h;exact h
   |cons l r ih=>
    intro s h;rw[List.foldl_cons];refine ih _ ?_;unfold dO;split
    ·exact h.way _
    ·exact h
  exact key _ _ hp
theorem cC.pass{N:Nat}{s:aE}(hp:cC (fun _=>0) s)(h:aN N s)(i:Int):cC (fun _=>0) (eL s i).1:=by
 unfold eL;split
 ·exact hp
 ·rename_i hw
  obtain⟨h0,hlt⟩:=kO hw;obtain⟨hil,hie⟩:=h.nat h0 hlt;split
  ·exact hp
  ·rename_i x hx
   split
   ·exact hp
   ·rename_i hc
    have hi0:i≠0:=fun e=>hc (.inr (.inl e))
    have hps:cC (fun _=>0) (aR s {aH with src:=i,dst:=i - 1,kind:=5,count:=x.token.count+x.sent - x.came,black:=x.token.black||x.black}):=hp.send h hil (by show(i - 1).toNat < _;omega) (fun k=>by simp[eJ]);have hW:=uP s {aH with src:=i,dst:=i - 1,kind:=5,count:=x.token.count+x.sent - x.came,black:=x.token.black||x.black} (by dsimp only;decide);have hx':(aR s {aH with src:=i,dst:=i - 1,kind:=5,count:=x.token.count+x.sent - x.came,black:=x.token.black||x.black}).W[i.toNat]?= some x:=by rw[hW];exact hx
    exact hps.reworker (x:={x with black:=false,has:=false}) (hps.one _ x hx') (hps.free _ x hx') (hps.room _ x hx') (fun _ _=>a_ _)
theorem cC.waves{n:Int}:∀(L:List Nat) (N:Nat) (s:aE),cC (fun _=>0) s->aN N s->s.answers≠ []->(∀k∈L,1<=k/\k < s.W.length)->cC (fun _=>0) (L.foldl (eR n) s):=by
 intro L
 induction L with
 |nil=>intro N s hp h _ _;exact hp
 |cons k r ih=>
  intro N s hp h ha hL;have hk:=hL k (List.mem_cons_self ..);obtain⟨e1,e2,-⟩:=pC s {aH with src:=0,dst:=k,kind:=6,round:=n};have hs:aN (N+1) (eR n s k):=h.waves [k] _ _ ha (fun a b=>by rw[List.mem_singleton.1 b];exact hk);have hps:cC (fun _=>0) (eR n s k):=hp.send h (by show(0:Int).toNat < _;simp;omega) (by show(k:Int).toNat < _;simp;omega) (fun k=>by simp[eJ]);rw[List.foldl_cons];exact ih (N+1) (eR n s k) hps hs (by show(aR _ _).answers≠ [];rw[e1];exact ha) (fun a b=>by show 1<=a/\a < (aR _ _).W.length;rw[e2];exact hL a (List.mem_cons_of_mem _ b))
theorem cC.check{N:Nat}{s:aE}(hp:cC (fun _=>0) s)(h:aN N s)(hN:N<=1000000000):cC (fun _=>0) (fJ s).1:=by
 have h2:=h.two;have hl:=h.len;unfold fJ;split
 ·exact hp
 ·split
  ·unfold fP
   split
   ·exact hp
   ·rename_i x hx
    have hxo:=h.works x (d_ hx);split
    ·exact hp
    ·split
     ·exact hp.rest rfl rfl rfl
     ·have hp1:cC (fun _=>0) {s with W:=s.W.set 0 {x with black:=false,has:=false}}:=hp.reworker (hp.one _ x hx) (hp.free _ x hx) (hp.room _ x hx) (fun _ _=>a_ _)
      exact hp1.send (h.reworker 0 (x:={x with black:=false,has:=false}) ⟨hxo.few,hxo.good,hxo.sent,hxo.came,hxo.tok⟩ (a_ _)) (by show(0:Int).toNat < _;simp;omega) (by show(s.workers - 1).toNat < _;simp;omega) (fun k=>by simp[eJ])
  ·unfold gD
   split
   ·exact hp
   ·rename_i x hx
    have hxo:=h.works x (d_ hx);split
    ·exact hp
    ·split
     ·exact hp.rest rfl rfl rfl
     ·have h3:aN (N+1) {s with answers:=s.answers++ [⟨0,0,0,true⟩]}:=h.reans (by have:=h.alen;simp;omega) (by simp) (fun a ha=>by
       rcases List.mem_append.1 ha with e|e
       ·exact(h.ans a e).more (Nat.le_succ N)
       ·rw[List.mem_singleton.1 e];exact⟨by dsimp only;omega,by dsimp only;omega,by dsimp only;omega⟩) (Nat.le_succ N)
      have hsn:=hxo.sent;have hcm:=hxo.came;have h4:=h3.noted (a:=x.sent) (b:=x.came) true (by omega) (by omega);have hne:(dA {s with answers:=s.answers++ [⟨0,0,0,true⟩]} x.sent x.came true).answers≠ []:=by
       unfold dA;split<;>simp
      have hwl:(dA {s with answers:=s.answers++ [⟨0,0,0,true⟩]} x.sent x.came true).W.length=s.W.length:=by
       unfold dA;split<;>rfl
      have hpn:cC (fun _=>0) (dA {s with answers:=s.answers++ [⟨0,0,0,true⟩]} x.sent x.came true):=by
       unfold dA;split<;>exact hp.rest rfl rfl rfl
      refine cC.waves (List.range' 1 (s.W.length - 1)) (N+1+1) _ hpn h4 hne (fun k hk=> ?_);rw[hwl];have:=List.mem_range'_1.1 hk;omega
theorem cC.new{workers room mode kind arg:Int}{ks:List aS}(hc:fC workers room mode=true):cC (fun _=>0) (dD workers room mode ks kind arg):=by
 simp[fC]at hc;have e2:∀(k n:Nat),((List.replicate n cN).map (eG (eJ k))).sum=0:=fun k n=>by
  induction n with
  |zero=>rfl
  |succ n ih=>rw[List.replicate_succ,List.map_cons,List.sum_cons,ih];rfl
 have e3:∀i n k:Nat,((List.replicate n (List.replicate k cN)).map fun ls=>(ls.map (eG (eJ i))).sum).sum=0:=fun i n k=>by
  induction n with
  |zero=>rfl
  |succ n ih=>rw[List.replicate_succ,List.map_cons,List.sum_cons,ih,e2]
 have hW:∀(i:Nat) (x:cF),(dD workers room mode ks kind arg).W[i]?= some x->x={cR with tasks:=[⟨⟨#[]⟩,kind,arg⟩],has:=true}\/x=cR:=fun i x hx=>by
  rcases List.mem_cons.1 (d_ hx)with h|h
  ·exact .inl h
  ·exact .inr (List.eq_of_mem_replicate h)
 refine⟨fun i x _=> ?_,fun i x hx ha=> ?_,fun i x hx=> ?_⟩
 ·have:total (eJ i) (dD workers room mode ks kind arg)=0:=e3 i _ _
  rw[this];exact Nat.zero_le _
 ·rcases hW i x hx with rfl|rfl
  ·simp[cR]at ha
  ·rfl
 ·rcases hW i x hx with rfl|rfl
  ·show(1:Int)<=room;omega
  ·show(0:Int)<=room;omega
structure eQ(N:Nat)(s:aE):Prop where
 fine:aN N s
 pol:cC (fun _=>0) s
theorem eQ.fits{N:Nat}{s:aE}(h:eQ N s):kD s:=
 ⟨h.fine.len,h.fine.two,h.fine.five,h.fine.rmin,h.fine.rmax,fun x hx=>by
  obtain⟨i,hi,rfl⟩:=List.mem_iff_getElem.1 hx;exact h.pol.room i _ (b_ hi),h.fine.prog,fun x hx=>(h.fine.works x hx).good⟩
theorem eQ.new{workers room mode kind arg:Int}{ks:List aS}(hc:fC workers room mode=true)(hp:cD ks kind arg=true):eQ 0 (dD workers room mode ks kind arg):=⟨aN.new hc hp,cC.new hc⟩
theorem eQ.more{N N':Nat}{s:aE}(h:eQ N s)(hN:N<=N'):eQ N' s:=⟨h.fine.more hN,h.pol⟩
theorem eQ.work{N:Nat}{s:aE}(h:eQ N s)(i:Int):eQ (N+1) (cJ s i).1:=⟨h.fine.work i,h.pol.work h.fine i⟩
theorem eQ.steal{N:Nat}{s:aE}(h:eQ N s)(i v:Int):eQ (N+1) (eE s i v).1:=⟨h.fine.steal i v,h.pol.steal h.fine i v⟩
theorem eQ.drop{N:Nat}{s:aE}(h:eQ N s)(k:Int):eQ N (fX s k).1:=⟨h.fine.drop k,h.pol.drop k⟩
theorem eQ.twice{N:Nat}{s:aE}(h:eQ N s)(k:Int):eQ N (fS s k).1:=⟨h.fine.twice k,h.pol.twice k⟩
theorem eQ.tick{N:Nat}{s:aE}(h:eQ N s)(i:Int):eQ N (fV s i).1:=⟨h.fine.tick i,h.pol.tick i⟩
theorem eQ.deliver{N:Nat}{s:aE}(h:eQ N s)(hN:N+5<=90000000)(k:Int):eQ (N+5) (eB s k).1:=⟨h.fine.deliver hN k,h.pol.deliver h.fine hN k⟩
theorem eQ.pass{N:Nat}{s:aE}(h:eQ N s)(hN:N<=1000000000)(i:Int):eQ (N+1) (eL s i).1:=⟨h.fine.pass hN i,h.pol.pass h.fine i⟩
theorem eQ.check{N:Nat}{s:aE}(h:eQ N s)(hN:N<=1000000000):eQ (N+6) (fJ s).1:=⟨h.fine.check hN,h.pol.check h.fine hN⟩
structure jZ(d:Int)(m:aI):Prop where
 kind:m.kind<=7
 size:m.v.1.size<=12
 wf:(Lit.int .i64 m.v.2).wf=true
 ne:m.src≠m.dst
 tok:m.kind=5->d=1
 wave:m.kind=6->m.src=0
theorem nQ{d:Int}{m:aI}(h:m.kind<=7)(hv:m.v=(⟨#[]⟩,0))(hn:m.src≠m.dst)(h5:m.kind=5->d=1)(h6:m.kind=6->m.src=0):jZ d m:=⟨h,by rw[hv];decide,by rw[hv];decide,hn,h5,h6⟩
theorem jZ.no{d:Int}{m:aI}(h:jZ d m)(n:Int):jZ d {m with no:=n}:=⟨h.kind,h.size,h.wf,h.ne,h.tok,h.wave⟩
def kC(d:Int)(L:List (List aO)):Prop:=∀ls∈L,∀l∈ls,∀m∈l.all,jZ d m
structure bJ(s:aE):Prop where
 links:kC s.mode s.links
 way:∀m∈s.way,m.src≠m.dst
theorem kC.link{d:Int}{L:List (List aO)}(h:kC d L)(a b:Nat):∀m∈((L[a]?.getD [])[b]?.getD cN).all,jZ d m:=by
 cases ha:L[a]? with
 |none=>intro m hm;simp[cN]at hm
 |some ls=>
  cases hb:ls[b]? with
  |none=>intro m hm;simp[hb,cN]at hm
  |some l=>intro m hm;simp[hb]at hm;exact h ls (d_ ha) l (d_ hb) m hm
theorem kC.set{d:Int}{L:List (List aO)}(h:kC d L)(a b:Nat){l':aO}(hl:∀m∈l'.all,jZ d m):kC d (L.set a ((L[a]?.getD []).set b l')):=by
 intro ls hls l hlm;rcases List.mem_or_eq_of_mem_set hls with h'|rfl
 ·exact h ls h' l hlm
 ·rcases List.mem_or_eq_of_mem_set hlm with h'|rfl
  ·cases ha:L[a]? with
   |none=>rw[ha]at h';simp at h'
   |some row=>rw[ha]at h';exact h row (d_ ha) l h'
  ·exact hl
theorem aGw(s:aE)(m:aI):(aR s m).links=s.links.set m.src.toNat ((s.links[m.src.toNat]?.getD []).set m.dst.toNat {aF s m.src.toNat m.dst.toNat with all:=(aF s m.src.toNat m.dst.toNat).all++ [{m with no:=(aF s m.src.toNat m.dst.toNat).all.length+1}]}):=by
 unfold aR cB;dsimp only;split<;>split<;>rfl
theorem yW{s:aE}{m m':aI}(h:m'∈(cB s m).way):m'∈s.way\/m'=m:=by
 unfold cB at h;split at h
 ·rcases List.mem_append.1 h with h|h
  ·exact .inl h
  ·exact .inr (List.mem_singleton.1 h)
 ·exact .inl h
theorem aKf{s:aE}{m m':aI}(h:m'∈(aR s m).way):m'∈s.way\/(m'.src=m.src/\m'.dst=m.dst):=by
 unfold aR at h;rcases yW h with h|h
 ·refine .inl ?_
  dsimp only at h;split at h<;>exact h
 ·exact .inr (by rw[h];exact⟨rfl,rfl⟩)
theorem vL(s:aE)(m:aI):(aR s m).mode=s.mode:=by
 unfold aR cB;dsimp only;split<;>split<;>rfl
theorem bJ.send{s:aE}(h:bJ s){m:aI}(hk:jZ s.mode m):bJ (aR s m):=by
 refine⟨?_,fun m' hm'=> ?_⟩
 ·rw[aGw,vL]
  refine kC.set h.links _ _ (fun m' hm'=> ?_);rcases List.mem_append.1 hm' with e|e
  ·exact kC.link h.links _ _ m' e
  ·rw[List.mem_singleton.1 e];exact hk.no _
 ·rcases aKf hm' with e|e
  ·exact h.way m' e
  ·rw[e.1,e.2];exact hk.ne
theorem bJ.rest{s s':aE}(h:bJ s)(e:s'.links=s.links)(e2:s'.way=s.way)(e3:s'.mode=s.mode:=by rfl):bJ s':=⟨by rw[e,e3];exact h.links,by rw[e2];exact h.way⟩
theorem bJ.work{N:Nat}{s:aE}(h:bJ s)(hf:aN N s)(i:Int):bJ (cJ s i).1:=by
 unfold cJ;split
 ·exact h
 ·split
  ·exact h
  ·rename_i x hx
   split
   ·exact h
   ·rename_i t ht
    dsimp only;split
    ·exact h.rest rfl rfl
    ·split
     ·exact h.rest rfl rfl
     ·rename_i hi0
      show bJ (aR _ _);refine bJ.send ?_ ?_
      ·exact h.rest rfl rfl
      have hg:=(hf.works x (d_ hx)).good t (List.mem_of_getLast? ht);exact⟨by simp,by show t.id.size<=12;have:=hg.1.2.2.2;have:=hg.1.2.2.1;omega,tM hf.prog hg.1,hi0,fun e=>by simp at e,fun e=>by simp at e⟩
theorem bJ.steal{s:aE}(h:bJ s)(i v:Int):bJ (eE s i v).1:=by
 unfold eE;split
 ·exact h
 ·split
  ·exact h
  ·split
   ·exact h
   ·rename_i hne
    split
    ·exact h
    ·split
     ·exact h
     ·show bJ (aR _ _)
      refine bJ.send ?_ ?_
      ·exact h.rest rfl rfl
      ·exact nQ (by simp) rfl hne (fun e=>by simp at e) (fun e=>by simp at e)
theorem bJ.drop{s:aE}(h:bJ s)(k:Int):bJ (fX s k).1:=by
 unfold fX;split
 ·exact h
 ·refine⟨h.links,fun m hm=> ?_⟩
  rcases List.mem_append.1 hm with e|e
  ·exact h.way m (List.mem_of_mem_take e)
  ·exact h.way m (List.mem_of_mem_drop e)
theorem bJ.put{s:aE}(h:bJ s){m:aI}(hm:m.src≠m.dst):bJ (cB s m):=by
 refine⟨?_,fun m' hm'=> ?_⟩
 ·have:(cB s m).mode=s.mode/\(cB s m).links=s.links:=by unfold cB;split<;>exact⟨rfl,rfl⟩
  rw[this.1,this.2];exact h.links
 ·rcases yW hm' with e|rfl
  ·exact h.way m' e
  ·exact hm
theorem bJ.twice{s:aE}(h:bJ s)(k:Int):bJ (fS s k).1:=by
 unfold fS;split
 ·exact h
 ·rename_i hw
  obtain⟨h0,h1⟩:=nN hw;obtain⟨m,hm⟩:∃m,s.way[k.toNat]?= some m:=⟨_,b_ (by omega)⟩;show bJ (cB s _);rw[hm];exact h.put (h.way m (d_ hm))
theorem bJ.again{s:aE}(h:bJ s){l:aO}(h0:0<=l.known){d:Int}(hl:∀m∈l.all,jZ d m):bJ (dO s l):=by
 unfold dO;split
 ·rename_i hk
  obtain⟨m,hm⟩:∃m,l.all[l.known.toNat]?= some m:=⟨_,b_ (by omega)⟩;rw[hm];exact h.put (hl m (d_ hm)).ne
 ·exact h
theorem bJ.againAll(d:Int):∀(L:List aO) (s:aE),bJ s->(∀l∈L,0<=l.known/\∀m∈l.all,jZ d m)->bJ (L.foldl dO s):=by
 intro L
 induction L with
 |nil=>exact fun s h _=>h
 |cons l L ih=>
  intro s h hl;rw[List.foldl_cons];exact ih _ (h.again (hl l (List.mem_cons_self ..)).1 (hl l (List.mem_cons_self ..)).2) (fun l' h'=>hl l' (List.mem_cons_of_mem _ h'))
theorem bJ.tick{N:Nat}{s:aE}(h:bJ s)(hf:aN N s)(i:Int):bJ (fV s i).1:=by
 unfold fV;split
 ·exact h
 ·refine bJ.againAll s.mode _ _ h ?_
  cases hx:s.links[i.toNat]? with
  |none=>intro l hl;simp at hl
  |some ls=>
   intro l hl;have hl':l∈ls:=by simpa using hl
   have hls:=d_ hx;obtain⟨a,b,ha,hb,e⟩:=tQ hf.llen hf.lrow hls hl';exact⟨by rw[e];exact(hf.links a b ha hb).known.1,h.links ls hls l hl'⟩
theorem bJ.came{s:aE}(h:bJ s){m:aI}(hm':jZ s.mode m):bJ (aX s m):=by
 have hm:=hm'.kind;have hne:m.dst≠m.src:=fun e=>hm'.ne e.symm
 unfold aX;dsimp only;split
 ·split
  ·exact h.send (nQ (by show(3:Int)<=7;omega) rfl hne (fun e=>by simp at e) (fun e=>by simp at e))
  ·show bJ (aR _ _)
   refine bJ.send ?_ ?_
   ·exact h.rest rfl rfl
   ·exact nQ (by simp) rfl hne (fun e=>by simp at e) (fun e=>by simp at e)
 ·split
  ·exact h.rest rfl rfl
  ·split
   ·exact h.rest rfl rfl
   ·split
    ·exact h.rest rfl rfl
    ·split
     ·exact h.rest rfl rfl
     ·split
      ·rename_i h6
       exact h.send (nQ (by show(7:Int)<=7;omega) rfl (by have:=hm'.wave h6;show m.dst≠0;omega) (fun e=>by simp at e) (fun e=>by simp at e))
      ·split
       ·unfold dA
        split
        ·exact h
        ·exact h.rest rfl rfl
       ·exact h
theorem bJ.relink{s:aE}(h:bJ s)(i j:Nat){l:aO}(hl:∀m∈l.all,jZ s.mode m):bJ (aZ s i j l):=⟨kC.set h.links i j hl,h.way⟩
theorem bJ.come(i j:Nat):∀(f:Nat) (s:aE),bJ s->bJ (fQ f s i j):=by
 intro f
 induction f with
 |zero=>exact fun s h=>h
 |succ f ih=>
  intro s h;unfold fQ;split
  ·refine ih _ ?_
   unfold fU;have h1:bJ (aZ s i j {aF s i j with came:=(aF s i j).came+1}):=h.relink i j (l:={aF s i j with came:=(aF s i j).came+1}) (kC.link h.links i j);cases hx:(aF s i j).all[(aF s i j).came.toNat]? with
   |none=>exact h1
   |some m=>exact h1.came (kC.link h.links i j m (d_ hx))
  ·exact h
theorem rF(l:aO)(n:Int):(bI l n).all=l.all/\(bI l n).known=l.known/\(bI l n).came=l.came:=by
 unfold bI;split<;>exact⟨rfl,rfl,rfl⟩
theorem bJ.unway{s:aE}(h:bJ s)(k:Nat):bJ {s with way:=s.way.take k++s.way.drop (k+1)}:=by
 refine⟨h.links,fun m hm=> ?_⟩;rcases List.mem_append.1 hm with e|e
 ·exact h.way m (List.mem_of_mem_take e)
 ·exact h.way m (List.mem_of_mem_drop e)
theorem bJ.deliver{s:aE}(h:bJ s)(k:Int):bJ (eB s k).1:=by
 unfold eB;split
 ·exact h
 ·rename_i hw
  obtain⟨h0,h1⟩:=nN hw;obtain⟨m,hm⟩:∃m,s.way[k.toNat]?= some m:=⟨_,b_ (by omega)⟩;have hne:=h.way m (d_ hm);have hu:=h.unway k.toNat;dsimp only;rw[hm,Option.getD_some];split
  ·split
   ·exact hu.relink _ _ (kC.link hu.links _ _)
   ·exact hu
  ·refine(bJ.come _ _ _ _ ?_).put (fun e=>hne e.symm)
   refine hu.relink _ _ ?_;rw[(rF _ _).1];exact kC.link hu.links _ _
theorem bJ.new(workers room mode kind arg:Int)(ks:List aS):bJ (dD workers room mode ks kind arg):=by
 refine⟨fun ls h l hl m hm=> ?_,fun m hm=>by simp[dD]at hm⟩;have h1:ls=List.replicate workers.toNat cN:=List.eq_of_mem_replicate h;rw[h1]at hl;rw[List.eq_of_mem_replicate hl]at hm;simp[cN]at hm
theorem bJ.pass{s:aE}(h:bJ s)(i:Int):bJ (eL s i).1:=by
 unfold eL;split
 ·exact h
 ·split
  ·exact h
  ·split
   ·exact h
   ·rename_i hc
    have hm:s.mode=1:=by
     by_cases e:s.mode=1
     ·exact e
     ·exact absurd (.inl e) hc
    dsimp only;rename_i x _;have hs:bJ (aR s {aH with src:=i,dst:=i - 1,kind:=5,count:=x.token.count+x.sent - x.came,black:=x.token.black||x.black}):=h.send (nQ (by show(5:Int)<=7;omega) rfl (by show i≠i - 1;omega) (fun _=>hm) (fun e=>by simp at e));exact hs.rest rfl rfl
theorem bJ.waves{r:Int}:∀(L:List Nat) (s:aE),(∀k∈L,1<=k)->bJ s->bJ (L.foldl (eR r) s):=by
 intro L
 induction L with
 |nil=>exact fun s _ h=>h
 |cons k L ih=>
  intro s hk h;rw[List.foldl_cons];refine ih _ (fun k' h'=>hk k' (List.mem_cons_of_mem _ h')) ?_;have:=hk k (List.mem_cons_self ..);exact h.send (nQ (by show(6:Int)<=7;omega) rfl (by show(0:Int)≠(k:Int);omega) (fun e=>by simp at e) (fun _=>rfl))
theorem bJ.noted{s:aE}(h:bJ s)(a b:Int)(c:Bool):bJ (dA s a b c):=by
 unfold dA;split
 ·exact h
 ·exact h.rest rfl rfl
theorem bJ.check{N:Nat}{s:aE}(h:bJ s)(hf:aN N s):bJ (fJ s).1:=by
 have h2:=hf.two;unfold fJ;split
 ·exact h
 ·split
  ·rename_i hm
   unfold fP;split
   ·exact h
   ·split
    ·exact h
    ·split
     ·exact h.rest rfl rfl
     ·show bJ (aR _ _)
      refine bJ.send ?_ ?_
      ·exact h.rest rfl rfl
      ·exact nQ (by show(5:Int)<=7;omega) rfl (by show(0:Int)≠s.workers - 1;omega) (fun _=>hm) (fun e=>by simp at e)
  ·unfold gD
   split
   ·exact h
   ·split
    ·exact h
    ·split
     ·exact h.rest rfl rfl
     ·refine bJ.waves _ _ (fun k hk=> ?_) (bJ.noted ?_ _ _ _)
      ·simp at hk;omega
      ·exact h.rest rfl rfl
theorem xA(s:aE)(i j:Nat)(l l':aO)(hl:i < s.links.length):aZ (aZ s i j l) i j l'=aZ s i j l':=by
 unfold aZ;dsimp only;rw[i8 hl];simp[b_ hl]
theorem sS(s:aE)(m:aI){i j:Nat}(l:aO)(hi:m.src.toNat≠i):aR (aZ s i j l) m=aZ (aR s m) i j l:=by
 have e:∀a,a≠i->(s.links.set i ((s.links[i]?.getD []).set j l))[a]?= s.links[a]?:=fun a ha=>List.getElem?_set_ne (fun e=>ha e.symm)
 have e2:∀(R:List aO),(s.links.set m.src.toNat R)[i]?= s.links[i]?:=fun R=>List.getElem?_set_ne hi
 unfold aR cB aZ;dsimp only;rw[e _ hi];have c:∀R,(s.links.set i ((s.links[i]?.getD []).set j l)).set m.src.toNat R=(s.links.set m.src.toNat R).set i ((s.links[i]?.getD []).set j l):=fun R=>List.set_comm _ _ (fun e=>hi e.symm)
 split<;>split<;>simp only[e2,c]<;>rfl
theorem vS(s:aE){m:aI}{i j:Nat}(l:aO)(hs:m.dst.toNat≠i):aX (aZ s i j l) m=aZ (aX s m) i j l:=by
 have hW:(aZ s i j l).W=s.W:=rfl;unfold aX;dsimp only;rw[hW];split
 ·split
  ·exact sS s _ l hs
  ·rename_i t r _
   exact sS {s with W:=s.W.set m.dst.toNat {s.W[m.dst.toNat]?.getD cR with tasks:=r}} _ l hs
 ·split
  ·rfl
  ·split
   ·rfl
   ·split
    ·rfl
    ·split
     ·rfl
     ·split
      ·exact sS s _ l hs
      ·split
       ·unfold dA
        have:(aZ s i j l).answers=s.answers:=rfl;rw[this];split<;>rfl
       ·rfl
theorem aDr{i j:Nat}(l:aO):∀(L:List aI) (s:aE),(∀m∈L,m.dst.toNat≠i)->L.foldl aX (aZ s i j l)=aZ (L.foldl aX s) i j l:=by
 intro L
 induction L with
 |nil=>exact fun s _=>rfl
 |cons m L ih=>
  intro s h;rw[List.foldl_cons,List.foldl_cons,vS s l (h m (List.mem_cons_self ..))];exact ih _ (fun m' h'=>h m' (List.mem_cons_of_mem _ h'))
theorem aHp{i j:Nat}:∀(n f N d:Nat) (s:aE),aN N s->i < s.W.length->j < s.W.length->N+d<=90000000->(∀k∈(aF s i j).kept,k<=(aF s i j).came+d)->i≠j->nY (aF s i j) n->n < f->n<=d->
  fQ f s i j=(((aF s i j).all.drop (aF s i j).came.toNat).take n).foldl aX (aZ s i j ((aF s i j).on n)):=by
 intro n
 induction n with
 |zero=>
  intro f N d s h hi hj hN hk hij hc hf hd;have h0:=hc.last;rw[rO]at h0;have hs:aZ s i j (aF s i j)=s:=by
   unfold aZ aF;have hl:i < s.links.length:=by rw[h.llen];exact hi
   have hr:=h.lrow _ (List.getElem_mem hl);rw[b_ hl];have hj':j < s.links[i].length:=by omega
   simp[b_ hj']
  rw[List.take_zero,List.foldl_nil,rO,hs];cases f with
  |zero=>omega
  |succ f=>unfold fQ;rw[if_neg (by rw[h0];simp)]
 |succ n ih=>
  intro f N d s h hi hj hN hk hij hc hf hd;cases f with
  |zero=>omega
  |succ f=>
   have h0:=hc.each 0 (by omega);rw[rO]at h0;have hlk:=h.links i j hi hj;have hnx:(aF s i j).came+1∈(aF s i j).kept:=by
    unfold gM at h0;obtain⟨x,hx,e⟩:=List.any_eq_true.1 h0;rw[<-(beq_iff_eq.1 e)];exact hx
   have hb:=hlk.kept _ hnx;have hc0:=hlk.came;obtain⟨m,hm⟩:∃m,(aF s i j).all[(aF s i j).came.toNat]?= some m:=⟨_,b_ (by omega)⟩;have hmo:=hlk.msgs _ m hm;have hset:=mH {aF s i j with came:=(aF s i j).came+1} h.llen h.lrow hi hj i j;rw[if_pos ⟨rfl,rfl⟩]at hset;have hF1:aN N (aZ s i j {aF s i j with came:=(aF s i j).came+1}):=h.relink hi hj (L:=[]) (by simp) ⟨hlk.msgs,hlk.all,hlk.known,by dsimp only;omega,fun k hk'=>by have:=hlk.kept k hk';dsimp only;omega,hlk.klen⟩ (a_ _);have hmo1:jQ (aZ s i j {aF s i j with came:=(aF s i j).came+1}).ks ((aZ s i j {aF s i j with came:=(aF s i j).came+1}).answers≠ []) N i j (aF s i j).came.toNat m:=hmo;have hstep:fU s i j=aX (aZ s i j {aF s i j with came:=(aF s i j).came+1}) m:=by unfold fU;rw[hm];rfl
   have hl2:=(pA hF1 hi hj hmo1).1;have hlen2:(aX (aZ s i j {aF s i j with came:=(aF s i j).came+1}) m).W.length=s.W.length:=(pA hF1 hi hj hmo1).2;rw[hset]at hl2;have hF2:=hF1.came (by omega) hi hj hmo1;have hd1:m.dst.toNat≠i:=by have:=hmo.dst;omega
   unfold fQ;rw[if_pos h0,hstep];have e1:({aF s i j with came:=(aF s i j).came+1}:aO)=(aF s i j).on 1:=rfl;rw[ih f (N+1) (d - 1) _ hF2 (by rw[hlen2];exact hi) (by rw[hlen2];exact hj) (by omega) (by rw[hl2];intro k hk';have:=hk k hk';dsimp only;omega) hij (by
    rw[hl2,e1];exact⟨fun k hk'=>by rw[uU,Nat.add_comm];exact hc.each _ (by omega),by rw[uU,Nat.add_comm];exact hc.last⟩) (by omega) (by omega)]
   rw[hl2,e1,uU,Nat.add_comm 1 n];rw[<-vS _ _ hd1,xA _ _ _ _ _ (by rw[h.llen];exact hi)];have hdrop:(aF s i j).all.drop (aF s i j).came.toNat=m :: (aF s i j).all.drop ((aF s i j).came.toNat+1):=by
    rw[List.drop_eq_getElem_cons (c_.1 hm).1,(c_.1 hm).2]
   rw[hdrop,List.take_succ_cons,List.foldl_cons];have hcame:((aF s i j).on 1).came.toNat=(aF s i j).came.toNat+1:=by
    show((aF s i j).came+1).toNat=_;omega
   rw[hcame];rfl
end Go.Proofs.YtfanaanofjhlkaaGreatDoor
