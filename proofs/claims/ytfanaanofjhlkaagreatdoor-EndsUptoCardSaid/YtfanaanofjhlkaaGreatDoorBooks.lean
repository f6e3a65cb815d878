import Derived.Test.YtfanaanofjhlkaaGreatDoorAt
import Derived.Test.YtfanaanofjhlkaaGreatDoorRefKids
import Derived.Test.YtfanaanofjhlkaaGreatDoorPickN
import Derived.Laws.CopyRow
import Derived.Deep.AppendLies
import Derived.OwnWalk
import Derived.ArgAppend
namespace Go.Proofs.YtfanaanofjhlkaaGreatDoor
open Go
theorem tree_more{ks:List KindS}{kind arg:Int}(hp:progB ks kind arg=true):∀(f:Nat) (t:TaskS),Good ks t->t.arg<=f->tree ks (f+1) t=tree ks f t
 |0,t,hG,hf=>by
  have he:children ks t=[]:=by
   refine List.eq_nil_iff_forall_not_mem.2 fun c hc=> ?_
   have h:=good_child hp hG hc
   have h2:=h.1.2.2.1
   omega
  simp[tree,he]
 |f+1,t,hG,hf=>by
  show t :: (children ks t).flatMap (tree ks (f+1))=t :: (children ks t).flatMap (tree ks f)
  rw[flatMap_same fun c hc=>tree_more hp f c (good_child hp hG hc).1 (by have:=(good_child hp hG hc).2;omega)]
def ByIds(l:List (ByteArray×Int)):Prop:=l.Pairwise (fun a b=>¬b.1.data.toList < a.1.data.toList)
theorem less_iff(a b:ByteArray):Op.bytesLess a.toList b.toList=true ↔ a.data.toList < b.data.toList:=by
 rw[Go.Proofs.bytesLess_eq,ByteArray.toList_eq,ByteArray.toList_eq];simp
theorem putS_perm:∀(l:List (ByteArray×Int)) (x:ByteArray×Int),(putS l x).Perm (x :: l)
 |[],x=> .refl _
 |y :: r,x=>by
  unfold putS
  split
  ·exact .refl _
  ·exact((putS_perm r x).cons y).trans (.swap x y r)
theorem putS_byIds:∀(l:List (ByteArray×Int)) (x:ByteArray×Int),ByIds l->ByIds (putS l x)
 |[],x,_=>by simp[putS,ByIds]
 |y :: r,x,h=>by
  obtain⟨h1,h2⟩:=List.pairwise_cons.1 h
  unfold putS
  split
  ·rename_i hlt
   rw[less_iff]at hlt
   refine List.pairwise_cons.2 ⟨fun z hz=> ?_,h⟩
   rcases List.mem_cons.1 hz with rfl|hz
   ·exact fun h'=>List.lt_irrefl _ (List.lt_trans hlt h')
   ·exact fun h'=>h1 z hz (List.lt_trans h' hlt)
  ·rename_i hlt
   rw[less_iff]at hlt
   refine List.pairwise_cons.2 ⟨fun z hz=> ?_,putS_byIds r x h2⟩
   rcases List.mem_cons.1 ((putS_perm r x).mem_iff.1 hz)with rfl|hz
   ·exact hlt
   ·exact h1 z hz
theorem byIds_eq:∀{l m:List (ByteArray×Int)},ByIds l->m.Pairwise (fun a b=>a.1.data.toList < b.1.data.toList)->l.Perm m->l=m
 |[],m,_,_,hp=>by rw[hp.nil_eq]
 |x :: l,[],_,_,hp=>by simpa using hp.length_eq
 |x :: l,y :: m,hl,hm,hp=>by
  obtain⟨l1,l2⟩:=List.pairwise_cons.1 hl
  obtain⟨m1,m2⟩:=List.pairwise_cons.1 hm
  have hxy:x=y:=by
   rcases List.mem_cons.1 (hp.mem_iff.1 (List.mem_cons_self (a:=x) (l:=l)))with h|h
   ·exact h
   ·rcases List.mem_cons.1 (hp.mem_iff.2 (List.mem_cons_self (a:=y) (l:=m)))with h'|h'
    ·exact h'.symm
    ·exact absurd (m1 x h) (l1 y h')
  subst hxy
  rw[byIds_eq l2 m2 ((List.perm_cons x).1 hp)]
end Go.Proofs.YtfanaanofjhlkaaGreatDoor
namespace Go.Proofs.YtfanaanofjhlkaaGreatDoor
open Go Go.RowKit
theorem children_length{ks:List KindS}{kind arg:Int}(hp:progB ks kind arg=true)(t:TaskS):(children ks t).length<=3:=by
 have key:∀(id:ByteArray) (x:Int) (l:List KidS) (i:Nat),(childrenFrom id x i l).length<=l.length:=by
  intro id x l
  induction l with
  |nil=>intro i;simp[childrenFrom]
  |cons c r ih=>
   intro i
   unfold childrenFrom
   have:=ih (i+1)
   split
   ·simp;omega
   ·simp;omega
 have h1:=key t.id t.arg (kindAt ks t.kind).kids 0
 have h2:=kids_le ks kind arg hp t.kind
 unfold children
 omega
theorem get_some{cs:Array Value}{i:Nat}(h:i < cs.size):∃v,cs[i]?= some v:=⟨_,Array.getElem?_eq_getElem h⟩
theorem ownsRow_base{W:World}{base base' e size n:Nat}{v:Value}{xs:List Value}(h:W.ownsRow base e size v n xs)(hb:base'<=base):W.ownsRow base' e size v n xs:=
 row_kept h (Kept.refl (fun _=>False) _) (fun _ _ h=>h) hb
theorem wpList_append_keeps{P:Program}{w:World}{ops:Array Oper}{rest:List Oper}{o:Oper}{a:Act}{Q:Exit->Act->World->Prop}(hgd:o.guard=none)(s x:Operand)(t:TypeId)
  (ho:o.op= .call {callee:= .builtin .append,args:=#[s,x],argTypes:=#[t,t]})
  (base:Nat) (e:TypeId) (i:TypeInfo) (z:Value) (size bytes:Nat) (ht:P.underlying t=some (.slice e)) (hi:P.info? e=some i) (hz:i.zero=some z)
  (hsize:i.size=size) (hby:i.bytes=bytes) (hzs:z.cells.size=size) (hsz:0 < size)
  (v:Value) (n:Nat) (xs:List Value) (hs:a.eval s=v) (hown:w.ownsRow base e size v n xs)
  (ad:Addr) (m c:Nat) (news:List Value) (hx:a.eval x= .slice (some ad) m c) (hl:news.length=m*size) (hnews:∀j u,news[j]?= some u->w.cell? (ad.add j)=some u) (h1:∀u∈news,u.oneCell'=true)
  (hm:0 < m) (h63:n+m<=maxLen) (hbytes:(n+m)*bytes<=140737488355328) (hbase:base<=w.heap.size)
  (h:∀g cap w',w'.ownsRow base e size (.slice (some ⟨g,0,none⟩) (n+m) cap) (n+m) (xs++news)->w.grownBy w' v.ownBlock->(v.ownBlock=some g\/w.heap.size<=g)->
   Hid (∀B cs,v.ownBlock=some B->BoxAt w B e cs->∃cs',BoxAt w' B e cs'/\∀j,j < n*size->cs'[j]?= cs[j]?)->wpList P ops Q rest (a.put o.dst (.slice (some ⟨g,0,none⟩) (n+m) cap)) w'):wpList P ops Q (o :: rest) a w:=by
 obtain⟨hxl,hv⟩:=hown
 rcases hv with⟨rfl,rfl⟩|⟨g,cap,cur,rfl,hbg,hcur,hnc,hcm,hcs,htk⟩
 ·obtain rfl:xs=[]:=List.eq_nil_of_length_eq_zero (by simpa using hxl)
  refine wpList_append_grows w hgd s x t ho e i z size bytes ht hi hz hsize hby hzs hsz none 0 0 [] hs (fun _=>⟨rfl,rfl⟩) (by simp) (fun _ h=>by cases h) ad m c news hx hl hnews h1 (by omega) h63 hbytes ?_
  intro v' w' hown' hgrow
  obtain⟨g,cap,rfl,hg1,hg2⟩:=World.ownsRow.form hown' (by omega)
  exact h g cap w' (ownsRow_base hown' hbase) hgrow (.inr hg1) (fun B cs e=>by cases e)
 ·have hlt:g < w.heap.size:=(Array.getElem?_eq_some_iff.1 hcur).1
  by_cases hr:n+m<=cap
  ·refine wpList_append_fits w hgd s x t ho base e i size ht hi hsize g n cap xs hs ⟨hxl,.inr ⟨g,cap,cur,rfl,hbg,hcur,hnc,hcm,hcs,htk⟩⟩ ad m c news hx hl hnews h1 hr ?_
   intro w' hown' hgrow
   refine h g cap w' hown' hgrow (.inl rfl) ?_
   obtain⟨_,hv'⟩:=hown'
   rcases hv' with⟨h0,_⟩|⟨g',cap',cur',h0,_,hcur',_,_,hcs',htk'⟩
   ·cases h0
   ·cases h0
    intro B cs hB hcsB
    obtain rfl:g=B:=by simpa[Value.ownBlock]using hB
    obtain rfl:cur=cs:=by
     have:=hcur.symm.trans hcsB
     simpa using this
    refine⟨cur',hcur',fun j hj=> ?_⟩
    have e1:cur'[j]?= (xs++news)[j]?:=by
     rw[<-htk',List.getElem?_take,if_pos (by rw[Nat.add_mul];omega)];simp
    have e2:cur[j]?= xs[j]?:=by
     rw[<-htk,List.getElem?_take,if_pos hj];simp
    rw[e1,e2,List.getElem?_append_left (by omega)]
  ·refine wpList_append_grows w hgd s x t ho e i z size bytes ht hi hz hsize hby hzs hsz (some ⟨g,0,none⟩) n cap xs hs (fun e=>by cases e) hxl (fun b hb j u hj=> ?_) ad m c news hx hl hnews h1 (by omega) h63 hbytes ?_
   ·cases hb
    exact World.ownsRow.cells (base:=base) (e:=e) (size:=size) (n:=n) ⟨hxl,.inr ⟨g,cap,cur,rfl,hbg,hcur,hnc,hcm,hcs,htk⟩⟩ (g:=g) rfl j u hj
   ·intro v' w' hown' hgrow
    obtain⟨g',cap',rfl,hg1,hg2⟩:=World.ownsRow.form hown' (by omega)
    refine h g' cap' w' (ownsRow_base hown' hbase) ⟨hgrow.os,hgrow.tape,hgrow.output,hgrow.size,fun k hk _=>hgrow.block k hk (by simp)⟩ (.inr hg1) (fun B cs hB hcsB=>⟨cs,(hgrow.block B (BoxAt.lt hcsB) (by simp)).trans hcsB,fun _ _=>rfl⟩)
end Go.Proofs.YtfanaanofjhlkaaGreatDoor
